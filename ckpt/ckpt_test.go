package ckpt_test

import (
	"encoding/binary"
	"fmt"
	"hash/crc32"
	"math"
	"reflect"
	"testing"

	"bosun/api"
	"bosun/ckone"
	"bosun/ckpt"
	"bosun/ckthree"
	"bosun/cktwo"
	"bosun/frame"
	"bosun/spec"
	"bosun/upgrade"
)

// versioned is a version of checkpoints: how states are saved, and what these have to do with the layers below.
type versioned[S any] struct {
	number uint8
	save   func(s S) (string, api.Errno)
	encode func(s S) (string, api.Errno)
	renew  func(s S) ckthree.State
}

func ones() versioned[ckone.State] {
	return versioned[ckone.State]{1, ckpt.One, ckone.Encode, upgrade.Both}
}

func twos() versioned[cktwo.State] {
	return versioned[cktwo.State]{2, ckpt.Two, cktwo.Encode, upgrade.Three}
}

func threes() versioned[ckthree.State] {
	return versioned[ckthree.State]{3, ckpt.Three, ckthree.Encode, func(s ckthree.State) ckthree.State { return s }}
}

// plainOne, plainTwo and plainThree are states of pods that may be.
func plainOne() ckone.State {
	return ckone.State{Seq: 1<<31 + 7, Pods: []ckone.Pod{
		{File: "a.json", Name: "web", Image: "nginx"},
		{File: "b/c.yaml", Name: "db.main", Image: "docker.io/pg:9", Restart: 1},
		{File: "b/d_1", Name: "x", Image: "y", Restart: 2},
	}}
}

func plainTwo() cktwo.State {
	return cktwo.State{Seq: 1<<40 + 7, Pods: []cktwo.Pod{
		{File: "a.json", Name: "web", Namespace: "default", Grace: 30, Containers: []cktwo.Container{{Name: "main", Image: "nginx"}, {Name: "b", Image: "i"}}},
		{File: "b/c.yaml", Name: "db.main", Namespace: "shop", Restart: 1, Grace: 3600, Containers: []cktwo.Container{{Name: "c", Image: "docker.io/pg:9"}, {Name: "0", Image: "0A@"}}},
		{File: "b/d_1", Name: "x", Namespace: "y", Restart: 2, Grace: 258, Containers: []cktwo.Container{{Name: "c", Image: "nginx"}, {Name: "d", Image: "nginx"}}},
	}}
}

func plainThree() ckthree.State {
	full := func(name string) spec.Container {
		return spec.Container{
			Name: name, Image: "docker.io/nginx:1", Command: []string{"serve", "-v"}, Ports: []spec.Port{{Number: 80}, {Number: 5353, Proto: spec.UDP}},
			Cpu: 258, Memory: 66051, Env: []spec.Env{{Name: "HOME", Value: "/"}, {Name: "LANG", Value: "é"}},
		}
	}
	return ckthree.State{Seq: 1<<40 + 7, Pods: []ckthree.Pod{
		{File: "a.json", Pod: spec.Pod{Name: "web", Namespace: "default", Grace: 30, Containers: []spec.Container{{Name: "c", Image: "i", Cpu: 1, Memory: 1}, full("b")}}},
		{File: "b/c.yaml", Pod: spec.Pod{Name: "db.main", Namespace: "shop", Restart: spec.OnFailure, Grace: 3600, Host: true, Containers: []spec.Container{full("c"), full("d")}}},
		{File: "b/d_1", Pod: spec.Pod{Name: "x", Namespace: "y", Restart: spec.Never, Grace: 258, Containers: []spec.Container{full("c"), full("0-0")}}},
	}}
}

// plainFrame is a frame as layer 3's words say it, with a length of its own choice.
func plainFrame(version uint8, length uint32, payload string) string {
	summed := append([]byte{version}, binary.BigEndian.AppendUint32(nil, length)...)
	summed = append(summed, payload...)
	sum := binary.BigEndian.AppendUint32(nil, crc32.ChecksumIEEE(summed))
	return "PODC" + string(summed) + string(sum)
}

func frameOf(version uint8, payload string) string {
	return plainFrame(version, uint32(len(payload)), payload)
}

// short is as much of a text as is worth showing.
func short(s string) string { return s[:min(len(s), 200)] }

// same says whether two things are alike, part by part; nil lists and empty ones are. With what stands behind the ends of
// the lists, if room is asked for.
func same[T any](a, b T, room bool) bool {
	return sameValues(reflect.ValueOf(a), reflect.ValueOf(b), room)
}

func sameValues(a, b reflect.Value, room bool) bool {
	switch a.Kind() {
	case reflect.Struct:
		for i := range a.NumField() {
			if !sameValues(a.Field(i), b.Field(i), room) {
				return false
			}
		}
		return true
	case reflect.Slice:
		if a.Len() != b.Len() || room && a.Cap() != b.Cap() {
			return false
		}
		if room {
			a, b = a.Slice(0, a.Cap()), b.Slice(0, b.Cap())
		}
		for i := range a.Len() {
			if !sameValues(a.Index(i), b.Index(i), room) {
				return false
			}
		}
		return true
	}
	return a.Interface() == b.Interface()
}

// copyOf is a copy in memory of its own, with what stands behind the ends of the lists.
func copyOf[T any](x T) T {
	to := reflect.New(reflect.TypeOf(x)).Elem()
	copyTo(to, reflect.ValueOf(x))
	return to.Interface().(T)
}

func copyTo(to, from reflect.Value) {
	switch from.Kind() {
	case reflect.Struct:
		for i := range from.NumField() {
			copyTo(to.Field(i), from.Field(i))
		}
	case reflect.Slice:
		if from.IsNil() {
			return
		}
		l := reflect.MakeSlice(from.Type(), from.Cap(), from.Cap())
		for i := range from.Cap() {
			copyTo(l.Index(i), from.Slice(0, from.Cap()).Index(i))
		}
		to.Set(l.Slice(0, from.Len()))
	default:
		to.Set(from)
	}
}

// span is where the items of a list lie, with the room behind its end.
type span struct{ from, to uintptr }

// spans are those of all lists in a thing.
func spans(v reflect.Value) []span {
	var l []span
	switch v.Kind() {
	case reflect.Struct:
		for i := range v.NumField() {
			l = append(l, spans(v.Field(i))...)
		}
	case reflect.Slice:
		if v.Cap() > 0 {
			l = append(l, span{v.Pointer(), v.Pointer() + uintptr(v.Cap())*v.Type().Elem().Size()})
		}
		for i := range v.Len() {
			l = append(l, spans(v.Index(i))...)
		}
	}
	return l
}

// holdApart holds that no two of all lists in some things share memory.
func holdApart(t *testing.T, what string, things ...any) {
	t.Helper()
	var l []span
	for _, x := range things {
		l = append(l, spans(reflect.ValueOf(x))...)
	}
	for i, x := range l {
		for _, y := range l[i+1:] {
			if x.from < y.to && y.from < x.to {
				t.Fatalf("%s: lists share memory", what)
			}
		}
	}
}

// loaded holds what is loaded of bytes: a state and a version, or an error alone.
func loaded(t *testing.T, what, b string, want ckthree.State, version uint8, e api.Errno) {
	t.Helper()
	s, v, err := ckpt.Load(b)
	if err != e || v != int(version) || !same(s, want, false) {
		t.Fatalf("%s: of %d bytes, %q: Load answers %d pods, Seq %d, version %d and %v, not %d pods, Seq %d, %d and %v",
			what, len(b), short(b), len(s.Pods), s.Seq, v, err, len(want.Pods), want.Seq, version, e)
	}
}

// refused holds that nothing is loaded of bytes, and for which error.
func refused(t *testing.T, what, b string, e api.Errno) {
	t.Helper()
	loaded(t, what, b, ckthree.State{}, 0, e)
}

// hold holds the checkpoint of a state that may be, and what is loaded of it.
func hold[S any](t *testing.T, what string, v versioned[S], s S) string {
	t.Helper()
	before := copyOf(s)
	payload, e := v.encode(s)
	if e != api.OK {
		t.Fatalf("%s: the state may not be: %v", what, e)
	}
	b, e := v.save(s)
	if b != frameOf(v.number, payload) || e != api.OK {
		t.Fatalf("%s: the checkpoint of version %d is %d bytes, %q, and %v", what, v.number, len(b), short(b), e)
	}
	if want, e := frame.Close(v.number, payload); b != want || e != api.OK {
		t.Fatalf("%s: the checkpoint of version %d isn't what Close answers", what, v.number)
	}
	if n, p, e := frame.Open(b); n != v.number || p != payload || e != api.OK {
		t.Fatalf("%s: in the checkpoint there is version %d, and %q; %v", what, n, short(p), e)
	}
	loaded(t, what, b, v.renew(s), v.number, api.OK)
	if !same(s, before, true) {
		t.Fatalf("%s: the state isn't as it was", what)
	}
	return b
}

// unsaved holds that a state has no checkpoint, and for which error.
func unsaved[S any](t *testing.T, what string, v versioned[S], s S, want api.Errno) {
	t.Helper()
	before := copyOf(s)
	if b, e := v.save(s); b != "" || e != want {
		t.Fatalf("%s: of version %d there is a checkpoint of %d bytes and %v, not %v alone", what, v.number, len(b), e, want)
	}
	if !same(s, before, true) {
		t.Fatalf("%s: the state isn't as it was", what)
	}
}

// P21.1: the chapter's example.
func TestExample(t *testing.T) {
	b, e := ckpt.Three(ckthree.State{Seq: 1})
	if len(b) != 23 || e != api.OK {
		t.Errorf("Three of Seq 1 without Pods is %q, %v", b, e)
	}
	loaded(t, "the example", b, ckthree.State{Seq: 1}, 3, api.OK)
}

// P21.1: checkpoints and their states, byte by byte.
func TestKnownCheckpoints(t *testing.T) {
	one := ckone.State{Seq: 258, Pods: []ckone.Pod{{File: "f", Name: "n", Image: "i", Restart: 1}}}
	two := cktwo.State{Seq: 258, Pods: []cktwo.Pod{{File: "f", Name: "n", Namespace: "s", Restart: 2, Grace: 259, Containers: []cktwo.Container{{Name: "c", Image: "i"}, {Name: "d", Image: "j"}}}}}
	port, env := spec.Port{Number: 772, Proto: spec.UDP}, spec.Env{Name: "A", Value: "é"}
	three := ckthree.State{Seq: 258, Pods: []ckthree.Pod{{File: "f", Pod: spec.Pod{Name: "n", Namespace: "s", Restart: 1, Grace: 259, Host: true, Containers: []spec.Container{
		{Name: "c", Image: "i", Command: []string{"x"}, Ports: []spec.Port{port}, Cpu: 260, Memory: 261, Env: []spec.Env{env}}}}}}}
	first, _ := ckpt.One(one)
	second, _ := ckpt.Two(two)
	third, _ := ckpt.Three(three)
	none, _ := ckpt.Three(ckthree.State{Seq: 1})
	newOne := ckthree.State{Seq: 258, Pods: []ckthree.Pod{{File: "f", Pod: spec.Pod{Name: "n", Namespace: "default", Restart: 1, Grace: 30, Containers: []spec.Container{
		{Name: "main", Image: "i", Cpu: 100, Memory: 64}}}}}}
	newTwo := ckthree.State{Seq: 258, Pods: []ckthree.Pod{{File: "f", Pod: spec.Pod{Name: "n", Namespace: "s", Restart: 2, Grace: 259, Containers: []spec.Container{
		{Name: "c", Image: "i", Cpu: 100, Memory: 64}, {Name: "d", Image: "j", Cpu: 100, Memory: 64}}}}}}
	for _, x := range []struct {
		b, want string
		s       ckthree.State
		version uint8
	}{
		{first, "PODC\x01\x00\x00\x00\x10" + "\x00\x00\x01\x02\x00\x01" + "\x00\x01f\x00\x01n\x00\x01i\x01" + "\xdb\x09\x79\x2c", newOne, 1},
		{second, "PODC\x02\x00\x00\x00\x23" + "\x00\x00\x00\x00\x00\x00\x01\x02\x00\x01" + "\x00\x01f\x00\x01n\x00\x01s\x02\x01\x03\x02" +
			"\x00\x01c\x00\x01i" + "\x00\x01d\x00\x01j" + "\xba\x08\xcd\x14", newTwo, 2},
		{third, "PODC\x03\x00\x00\x00\x36" + "\x00\x00\x00\x00\x00\x00\x01\x02\x00\x01" + "\x00\x01f\x00\x01n\x00\x01s\x01\x01\x03\x01\x01" +
			"\x00\x01c\x00\x01i" + "\x01\x00\x01x" + "\x01\x03\x04\x01" + "\x00\x00\x01\x04\x00\x00\x01\x05" + "\x01\x00\x01A\x00\x02\xc3\xa9" + "\x2d\xad\x5e\x76", three, 3},
		{none, "PODC\x03\x00\x00\x00\x0a" + "\x00\x00\x00\x00\x00\x00\x00\x01\x00\x00" + "\x25\xc3\x5b\x2d", ckthree.State{Seq: 1}, 3},
	} {
		if x.b != x.want {
			t.Errorf("the checkpoint of version %d is %q, not %q", x.version, x.b, x.want)
		}
		loaded(t, "known bytes", x.want, x.s, x.version, api.OK)
	}
}

// P21.1, P21.2: states of no pods, of one, and of several.
func TestStates(t *testing.T) {
	for n := range 4 {
		one, two, three := plainOne(), plainTwo(), plainThree()
		one.Pods, two.Pods, three.Pods = one.Pods[:n], two.Pods[:n], three.Pods[:n]
		hold(t, fmt.Sprint(n, " pods"), ones(), one)
		hold(t, fmt.Sprint(n, " pods"), twos(), two)
		hold(t, fmt.Sprint(n, " pods"), threes(), three)
	}
	hold(t, "the zero state", ones(), ckone.State{})
	hold(t, "the zero state", twos(), cktwo.State{})
	hold(t, "the zero state", threes(), ckthree.State{})
}

// P21.1: each Seq from end to end.
func TestSeq(t *testing.T) {
	for _, seq := range []uint64{0, 1, 255, 256, 1 << 31, math.MaxUint32, math.MaxUint32 + 1, math.MaxInt64, math.MaxInt64 + 1, math.MaxUint64} {
		one, two, three := plainOne(), plainTwo(), plainThree()
		one.Seq, two.Seq, three.Seq = uint32(seq), seq, seq
		hold(t, "a Seq", ones(), one)
		hold(t, "a Seq", twos(), two)
		hold(t, "a Seq", threes(), three)
	}
}

// P21.1: a state of version 3 that was made of one of version 2 isn't taken for one: each checkpoint has its own version.
func TestVersionsStandApart(t *testing.T) {
	one := plainOne()
	two := upgrade.Two(one)
	three := upgrade.Three(two)
	a, b, c := hold(t, "a state", ones(), one), hold(t, "a state", twos(), two), hold(t, "a state", threes(), three)
	for i, b := range []string{a, b, c} {
		loaded(t, "a state in all versions", b, three, uint8(i+1), api.OK)
	}
}

// R4: nil lists and empty ones are one.
func TestEmptyLists(t *testing.T) {
	first, second, third := hold(t, "nil", ones(), ckone.State{Seq: 5}), hold(t, "nil", twos(), cktwo.State{Seq: 5}), hold(t, "nil", threes(), ckthree.State{Seq: 5})
	for _, b := range []string{
		hold(t, "no pods", ones(), ckone.State{Seq: 5, Pods: []ckone.Pod{}}),
		hold(t, "no pods with room", ones(), ckone.State{Seq: 5, Pods: plainOne().Pods[:0]}),
	} {
		if b != first {
			t.Errorf("of version 1 no pods are %q, not %q", b, first)
		}
	}
	for _, b := range []string{
		hold(t, "no pods", twos(), cktwo.State{Seq: 5, Pods: []cktwo.Pod{}}),
		hold(t, "no pods with room", twos(), cktwo.State{Seq: 5, Pods: plainTwo().Pods[:0]}),
	} {
		if b != second {
			t.Errorf("of version 2 no pods are %q, not %q", b, second)
		}
	}
	for _, b := range []string{
		hold(t, "no pods", threes(), ckthree.State{Seq: 5, Pods: []ckthree.Pod{}}),
		hold(t, "no pods with room", threes(), ckthree.State{Seq: 5, Pods: plainThree().Pods[:0]}),
	} {
		if b != third {
			t.Errorf("of version 3 no pods are %q, not %q", b, third)
		}
	}
	nils, empties := plainThree(), plainThree()
	for i := range nils.Pods {
		c, d := &nils.Pods[i].Pod.Containers[1], &empties.Pods[i].Pod.Containers[1]
		c.Command, c.Ports, c.Env = nil, nil, nil
		d.Command, d.Ports, d.Env = []string{}, d.Ports[:0], []spec.Env{}
	}
	if a, b := hold(t, "nil lists", threes(), nils), hold(t, "empty lists", threes(), empties); a != b {
		t.Error("nil lists and empty ones have unlike checkpoints")
	}
}

// R3: what stands behind the ends of lists plays no part, and stays.
func TestRoom(t *testing.T) {
	one, two, three := plainOne(), plainTwo(), plainThree()
	one.Pods, two.Pods, three.Pods = one.Pods[:1], two.Pods[:1], three.Pods[:1]
	two.Pods[0].Containers = two.Pods[0].Containers[:1]
	p := &three.Pods[0].Pod
	p.Containers[1].Command, p.Containers[1].Ports, p.Containers[1].Env = p.Containers[1].Command[:1], p.Containers[1].Ports[:0], p.Containers[1].Env[:1]
	hold(t, "room", ones(), one)
	hold(t, "room", twos(), two)
	hold(t, "room", threes(), three)
}

// R3, R5: what is loaded is new memory: it may be changed, and nothing that is loaded later changes with it.
func TestLoadedAnew(t *testing.T) {
	one, two, three := plainOne(), plainTwo(), plainThree()
	for _, x := range []struct {
		b    string
		want ckthree.State
		in   any
	}{
		{hold(t, "a state", ones(), one), upgrade.Both(one), one},
		{hold(t, "a state", twos(), two), upgrade.Three(two), two},
		{hold(t, "a state", threes(), three), three, three},
	} {
		s, _, _ := ckpt.Load(x.b)
		again, _, _ := ckpt.Load(x.b)
		holdApart(t, "states that were loaded", x.in, s, again)
		for i := range s.Pods {
			p := &s.Pods[i]
			p.File, p.Pod.Name, p.Pod.Host = "other", "other", true
			for k := range p.Pod.Containers {
				c := &p.Pod.Containers[k]
				c.Name, c.Cpu = "other", 5
				for j := range c.Command {
					c.Command[j] = "other"
				}
			}
		}
		if !same(again, x.want, false) {
			t.Error("a state changed with another one that was loaded")
		}
		_, version, _ := ckpt.Load(x.b)
		loaded(t, "once more", x.b, x.want, uint8(version), api.OK)
	}
	if !same(one, plainOne(), false) || !same(two, plainTwo(), false) || !same(three, plainThree(), false) {
		t.Error("a state changed with what was loaded")
	}
}
