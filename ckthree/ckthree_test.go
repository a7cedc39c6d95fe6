package ckthree_test

import (
	"encoding/binary"
	"math"
	"reflect"
	"slices"
	"strings"
	"testing"

	"bosun/api"
	"bosun/ckthree"
	"bosun/spec"
)

// small is a container with no more than it needs.
func small(name string) spec.Container {
	return spec.Container{Name: name, Image: "i", Cpu: 1, Memory: 1}
}

// full is a container that may be, with two items in each list.
func full(name string) spec.Container {
	return spec.Container{
		Name:    name,
		Image:   "docker.io/nginx:1",
		Command: []string{"serve", "-v"},
		Ports:   []spec.Port{{Number: 80, Proto: spec.TCP}, {Number: 5353, Proto: spec.UDP}},
		Cpu:     258,
		Memory:  66051,
		Env:     []spec.Env{{Name: "HOME", Value: "/"}, {Name: "LANG", Value: "é"}},
	}
}

// podOf is the pod of a File, with no more than it needs.
func podOf(file string) ckthree.Pod {
	return ckthree.Pod{File: file, Pod: spec.Pod{Name: "n", Namespace: "s", Grace: 1, Containers: []spec.Container{small("c")}}}
}

// one is a state of one pod; of is one whose pod is changed.
func one(p ckthree.Pod) ckthree.State { return ckthree.State{Seq: 1, Pods: []ckthree.Pod{p}} }

func of(do func(p *spec.Pod)) ckthree.State {
	p := podOf("f")
	do(&p.Pod)
	return one(p)
}

// many is a state of so many pods; their Files rise, but for those beyond 17576.
func many(n int) ckthree.State {
	s := ckthree.State{Seq: 9, Pods: make([]ckthree.Pod, n)}
	for i := range s.Pods {
		s.Pods[i] = podOf("f" + string([]byte{byte('a' + i/676%26), byte('a' + i/26%26), byte('a' + i%26)}))
	}
	return s
}

// plain is a state of pods that may be.
func plain() ckthree.State {
	return ckthree.State{Seq: 1<<40 + 7, Pods: []ckthree.Pod{
		{File: "a.json", Pod: spec.Pod{Name: "web", Namespace: "default", Grace: 30, Containers: []spec.Container{small("c")}}},
		{File: "b/c.yaml", Pod: spec.Pod{Name: "db.main", Namespace: "shop", Restart: spec.OnFailure, Grace: 3600, Host: true,
			Containers: []spec.Container{full("first"), full("second"), full("third")}}},
		{File: "b/d_1", Pod: spec.Pod{Name: "x", Namespace: "y", Restart: spec.Never, Grace: 258, Containers: []spec.Container{full("c"), full("d")}}},
		{File: "b/d_1.json", Pod: spec.Pod{Name: "x", Namespace: "y", Restart: spec.Never, Grace: 1, Host: true, Containers: []spec.Container{full("0-0")}}},
	}}
}

// fill puts more items behind a list, till it has so many.
func fill[T any](l *[]T, n int, item func(i int) T) {
	for len(*l) < n {
		*l = append(*l, item(len(*l)))
	}
}

// letter is the small letter of a number, and the items of a number are alike with none of another number.
func letter(i int) string { return string([]byte{byte('a' + i)}) }

func numbered(i int) spec.Container { return small("n" + letter(i%26) + letter(i/26%26)) }

func command(i int) string { return letter(i % 26) }

func port(i int) spec.Port { return spec.Port{Number: int64(1000 + i)} }

func env(i int) spec.Env { return spec.Env{Name: "N" + letter(i%26), Value: "v"} }

// copyList is a copy of a list in memory of its own, with what stands behind its end.
func copyList[T any](l []T) []T {
	return slices.Clone(l[:cap(l)])[:len(l):cap(l)]
}

// copyOf is such a copy of a state, and of all lists in it.
func copyOf(s ckthree.State) ckthree.State {
	s.Pods = copyList(s.Pods)
	for i := range s.Pods {
		p := &s.Pods[i].Pod
		p.Containers = copyList(p.Containers)
		for k := range p.Containers {
			c := &p.Containers[k]
			c.Command, c.Ports, c.Env = copyList(c.Command), copyList(c.Ports), copyList(c.Env)
		}
	}
	return s
}

// alike says whether two lists are, nil ones and empty ones, too.
func alike[T any](l, m []T, same func(a, b T) bool) bool { return slices.EqualFunc(l, m, same) }

// equal says whether two states are alike, nil lists and empty ones, too.
func equal(s, t ckthree.State) bool {
	return s.Seq == t.Seq && alike(s.Pods, t.Pods, func(p, q ckthree.Pod) bool { return p.File == q.File && equalPods(p.Pod, q.Pod) })
}

func equalPods(p, q spec.Pod) bool {
	lists := alike(p.Containers, q.Containers, equalContainers)
	p.Containers, q.Containers = nil, nil
	return lists && reflect.DeepEqual(p, q)
}

func equalContainers(c, d spec.Container) bool {
	if !slices.Equal(c.Command, d.Command) || !slices.Equal(c.Ports, d.Ports) || !slices.Equal(c.Env, d.Env) {
		return false
	}
	c.Command, c.Ports, c.Env, d.Command, d.Ports, d.Env = nil, nil, nil, nil, nil, nil
	return reflect.DeepEqual(c, d)
}

// room is a list with what stands behind its end.
func room[T any](l []T) []T { return l[:cap(l)] }

// untouched says whether a state is alike to its copy, with what stands behind the ends of all lists.
func untouched(s, t ckthree.State) bool {
	if !equal(s, t) || !reflect.DeepEqual(room(s.Pods), room(t.Pods)) {
		return false
	}
	for i := range s.Pods {
		l, m := room(s.Pods[i].Pod.Containers), room(t.Pods[i].Pod.Containers)
		if !reflect.DeepEqual(l, m) {
			return false
		}
		for k := range l {
			c, d := l[k], m[k]
			if k < len(s.Pods[i].Pod.Containers) && (!slices.Equal(room(c.Command), room(d.Command)) || !slices.Equal(room(c.Ports), room(d.Ports)) || !slices.Equal(room(c.Env), room(d.Env))) {
				return false
			}
		}
	}
	return true
}

// kind is what a part of a state's bytes is.
type kind int

const (
	number kind = iota // a number of its bytes
	count              // how many items a list has
	flag               // a yes or no
	text               // a text
)

// part is a part of a state's bytes.
type part struct {
	kind  kind
	bytes string
}

// num is a number's bytes, txt a text's, whatever their lengths.
func num(n int, v uint64) string {
	b := binary.BigEndian.AppendUint64(nil, v)
	return string(b[8-n:])
}

func txt(s string) string { return num(2, uint64(len(s))) + s }

// partsOf are the parts of a state's bytes by the chapter's words, whether it may be or not.
func partsOf(s ckthree.State) []part {
	l := []part{{number, num(8, s.Seq)}, {count, num(2, uint64(len(s.Pods)))}}
	add := func(kind kind, bytes ...string) {
		for _, b := range bytes {
			l = append(l, part{kind, b})
		}
	}
	for _, p := range s.Pods {
		yes := "\x00"
		if p.Pod.Host {
			yes = "\x01"
		}
		add(text, txt(p.File), txt(p.Pod.Name), txt(p.Pod.Namespace))
		add(number, num(1, uint64(p.Pod.Restart)), num(2, uint64(p.Pod.Grace)))
		add(flag, yes)
		add(count, num(1, uint64(len(p.Pod.Containers))))
		for _, c := range p.Pod.Containers {
			add(text, txt(c.Name), txt(c.Image))
			add(count, num(1, uint64(len(c.Command))))
			for _, s := range c.Command {
				add(text, txt(s))
			}
			add(count, num(1, uint64(len(c.Ports))))
			for _, p := range c.Ports {
				add(number, num(2, uint64(p.Number)), num(1, uint64(p.Proto)))
			}
			add(number, num(4, uint64(c.Cpu)), num(4, uint64(c.Memory)))
			add(count, num(1, uint64(len(c.Env))))
			for _, v := range c.Env {
				add(text, txt(v.Name), txt(v.Value))
			}
		}
	}
	return l
}

// join are the bytes of parts; raw are a state's.
func join(l []part) string {
	var b strings.Builder
	for _, p := range l {
		b.WriteString(p.bytes)
	}
	return b.String()
}

func raw(s ckthree.State) string { return join(partsOf(s)) }

// takeable says whether a state's bytes are taken as they are: whether none of its lists has too many items, no text is
// too long, and no number outside those of its bytes.
func takeable(s ckthree.State) bool {
	fits := func(n int, v int64) bool { return 0 <= v && v < 1<<(8*n) }
	may := len(s.Pods) <= 1024
	texts := func(l ...string) {
		for _, s := range l {
			may = may && len(s) <= 4096
		}
	}
	for _, p := range s.Pods {
		texts(p.File, p.Pod.Name, p.Pod.Namespace)
		may = may && fits(1, int64(p.Pod.Restart)) && fits(2, p.Pod.Grace) && len(p.Pod.Containers) <= 16
		for _, c := range p.Pod.Containers {
			texts(c.Name, c.Image)
			texts(c.Command...)
			may = may && len(c.Command) <= 16 && len(c.Ports) <= 16 && len(c.Env) <= 16 && fits(4, c.Cpu) && fits(4, c.Memory)
			for _, p := range c.Ports {
				may = may && fits(2, p.Number) && fits(1, int64(p.Proto))
			}
			for _, v := range c.Env {
				texts(v.Name, v.Value)
			}
		}
	}
	return may
}

// short is as much of a text as is worth showing.
func short(s string) string { return s[:min(len(s), 200)] }

// decoded holds what bytes are decoded as: a state, or the zero one and an error.
func decoded(t *testing.T, what, b string, want ckthree.State, e api.Errno) {
	t.Helper()
	s, err := ckthree.Decode(b)
	if e != api.OK && (s.Seq != 0 || len(s.Pods) != 0) {
		t.Fatalf("%s: of %q: Decode answers pods, or a Seq, beside %v", what, short(b), err)
	}
	if err != e || !equal(s, want) {
		t.Fatalf("%s: of %q: Decode answers %d pods and %v, not %d and %v", what, short(b), len(s.Pods), err, len(want.Pods), e)
	}
	if e != api.OK {
		return
	}
	if again, err := ckthree.Encode(s); again != b || err != api.OK {
		t.Fatalf("%s: what %q is decoded as is encoded as %q, %v", what, short(b), short(again), err)
	}
}

// refused holds that bytes are refused, and for which error.
func refused(t *testing.T, what, b string, e api.Errno) {
	t.Helper()
	decoded(t, what, b, ckthree.State{}, e)
}

// hold holds what is wrong with a state, that it is encoded if it may be, and what its bytes are decoded as.
func hold(t *testing.T, what string, s ckthree.State, e api.Errno) {
	t.Helper()
	before := copyOf(s)
	if err := s.Check(); err != e {
		t.Fatalf("%s: Check answers %v, not %v", what, err, e)
	}
	want := ""
	if e == api.OK {
		want = raw(s)
	}
	if b, err := ckthree.Encode(s); b != want || err != e {
		t.Fatalf("%s: Encode answers %q and %v, not %q and %v", what, short(b), err, short(want), e)
	}
	switch {
	case e == api.OK:
		decoded(t, what, want, s, e)
	case takeable(s):
		refused(t, what, raw(s), e)
	}
	if !untouched(s, before) {
		t.Fatalf("%s: the state isn't as it was", what)
	}
}

// P19.1, P19.2: the chapter's example.
func TestExample(t *testing.T) {
	s := ckthree.State{Seq: 1}
	b, e := ckthree.Encode(s)
	if b != "\x00\x00\x00\x00\x00\x00\x00\x01\x00\x00" || e != api.OK {
		t.Errorf("the state of Seq 1 without Pods is %q, %v", b, e)
	}
	decoded(t, "the example", "\x00\x00\x00\x00\x00\x00\x00\x01\x00\x00", s, api.OK)
}

// P19.1: each Seq there may be, from end to end; it has nothing to do with what is wrong.
func TestSeq(t *testing.T) {
	for _, seq := range []uint64{0, 1, 255, 256, math.MaxUint32, math.MaxUint32 + 1, math.MaxInt64, math.MaxInt64 + 1, math.MaxUint64 - 1, math.MaxUint64} {
		for _, x := range []struct {
			s ckthree.State
			e api.Errno
		}{{ckthree.State{}, api.OK}, {plain(), api.OK}, {many(1025), api.ErrFull}, {one(ckthree.Pod{}), api.ErrName}} {
			x.s.Seq = seq
			hold(t, "a Seq", x.s, x.e)
		}
	}
}

// R4: nil lists and empty ones are one, and so are their bytes.
func TestEmptyLists(t *testing.T) {
	for _, s := range []ckthree.State{{Seq: 5}, {Seq: 5, Pods: []ckthree.Pod{}}, {Seq: 5, Pods: make([]ckthree.Pod, 0, 3)}, {Seq: 5, Pods: plain().Pods[:0]}} {
		hold(t, "no pods", s, api.OK)
		if b, _ := ckthree.Encode(s); b != "\x00\x00\x00\x00\x00\x00\x00\x05\x00\x00" {
			t.Errorf("the bytes of no pods are %q", b)
		}
	}
	for _, l := range [][]spec.Container{nil, {}, make([]spec.Container, 0, 3), plain().Pods[1].Pod.Containers[:0]} {
		for i := range plain().Pods {
			s := plain()
			s.Pods[i].Pod.Containers = l
			hold(t, "no containers", s, api.ErrNone)
		}
	}
	for i, p := range plain().Pods {
		for k := range p.Pod.Containers {
			want := ""
			for n := range 3 {
				s := plain()
				c := &s.Pods[i].Pod.Containers[k]
				c.Command = [][]string{nil, {}, c.Command[:0]}[n]
				c.Ports = [][]spec.Port{nil, {}, c.Ports[:0]}[n]
				c.Env = [][]spec.Env{nil, {}, c.Env[:0]}[n]
				hold(t, "a container with empty lists", s, api.OK)
				b, _ := ckthree.Encode(s)
				if n > 0 && b != want {
					t.Errorf("the bytes of empty lists are %q, and those of nil ones %q", b, want)
				}
				want = b
			}
		}
	}
	hold(t, "the zero state", ckthree.State{}, api.OK)
}
