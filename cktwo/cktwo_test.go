package cktwo_test

import (
	"encoding/binary"
	"math"
	"reflect"
	"slices"
	"strings"
	"testing"

	"bosun/api"
	"bosun/cktwo"
)

// plain is a state of pods that may be.
func plain() cktwo.State {
	return cktwo.State{Seq: 1<<40 + 7, Pods: []cktwo.Pod{
		{File: "a.json", Name: "web", Namespace: "default", Restart: 0, Grace: 30, Containers: []cktwo.Container{
			{Name: "c", Image: "nginx"}}},
		{File: "b/c.yaml", Name: "db.main", Namespace: "shop", Restart: 1, Grace: 3600, Containers: []cktwo.Container{
			{Name: "first", Image: "docker.io/pg:9"}, {Name: "second", Image: "x"}, {Name: "third", Image: "x"}}},
		{File: "b/d_1", Name: "x", Namespace: "y", Restart: 2, Grace: 258, Containers: []cktwo.Container{
			{Name: "c", Image: "nginx"}, {Name: "d", Image: "0A@"}}},
		{File: "b/d_1.json", Name: "x", Namespace: "y", Restart: 2, Grace: 1, Containers: []cktwo.Container{
			{Name: "0-0", Image: "x"}, {Name: "a", Image: "b"}, {Name: "b", Image: "a"}}},
	}}
}

// copyOf is a copy of a state in memory of its own, with what stands behind the ends of its lists.
func copyOf(s cktwo.State) cktwo.State {
	s.Pods = slices.Clone(s.Pods[:cap(s.Pods)])[:len(s.Pods):cap(s.Pods)]
	for i, p := range s.Pods {
		s.Pods[i].Containers = slices.Clone(p.Containers[:cap(p.Containers)])[:len(p.Containers):cap(p.Containers)]
	}
	return s
}

// equal says whether two states are alike, nil lists and empty ones, too.
func equal(s, t cktwo.State) bool {
	if s.Seq != t.Seq || len(s.Pods) != len(t.Pods) {
		return false
	}
	for i, p := range s.Pods {
		q := t.Pods[i]
		if len(p.Containers) == 0 && len(q.Containers) == 0 {
			p.Containers, q.Containers = nil, nil
		}
		if !reflect.DeepEqual(p, q) {
			return false
		}
	}
	return true
}

// untouched says whether two states are alike, with what stands behind the ends of their lists.
func untouched(s, t cktwo.State) bool {
	for i := range s.Pods {
		if l, m := s.Pods[i].Containers, t.Pods[i].Containers; !slices.Equal(l[:cap(l)], m[:cap(m)]) {
			return false
		}
	}
	return equal(s, t) && reflect.DeepEqual(s.Pods[:cap(s.Pods)], t.Pods[:cap(t.Pods)])
}

// number is a number's bytes, text a text's, whatever their lengths.
func number(n int, v uint64) string {
	b := binary.BigEndian.AppendUint64(nil, v)
	return string(b[8-n:])
}

func text(s string) string { return number(2, uint64(len(s))) + s }

// bytesOf are a pod's bytes, whether it may be or not; raw are a state's.
func bytesOf(p cktwo.Pod) string {
	b := text(p.File) + text(p.Name) + text(p.Namespace) + number(1, uint64(p.Restart)) + number(2, uint64(p.Grace)) + number(1, uint64(len(p.Containers)))
	for _, c := range p.Containers {
		b += text(c.Name) + text(c.Image)
	}
	return b
}

func raw(s cktwo.State) string {
	var b strings.Builder
	b.WriteString(number(8, s.Seq) + number(2, uint64(len(s.Pods))))
	for _, p := range s.Pods {
		b.WriteString(bytesOf(p))
	}
	return b.String()
}

// short is as much of a text as is worth showing.
func short(s string) string { return s[:min(len(s), 200)] }

// decoded holds what bytes are decoded as: a state, or the zero one and an error.
func decoded(t *testing.T, what, b string, want cktwo.State, e api.Errno) {
	t.Helper()
	s, err := cktwo.Decode(b)
	if e != api.OK && (s.Seq != 0 || len(s.Pods) != 0) {
		t.Fatalf("%s: of %q: Decode answers pods, or a Seq, beside %v", what, short(b), err)
	}
	if err != e || !equal(s, want) {
		t.Fatalf("%s: of %q: Decode answers %d pods and %v, not %d and %v", what, short(b), len(s.Pods), err, len(want.Pods), e)
	}
	if e != api.OK {
		return
	}
	if again, err := cktwo.Encode(s); again != b || err != api.OK {
		t.Fatalf("%s: what %q is decoded as is encoded as %q, %v", what, short(b), short(again), err)
	}
}

// refused holds that bytes are refused, and for which error.
func refused(t *testing.T, what, b string, e api.Errno) {
	t.Helper()
	decoded(t, what, b, cktwo.State{}, e)
}

// hold holds what is wrong with a state, that it is encoded if it may be, and what its bytes are decoded as; a state that
// has a text above 4096 bytes isn't for that.
func hold(t *testing.T, what string, s cktwo.State, e api.Errno) {
	t.Helper()
	before := copyOf(s)
	if err := s.Check(); err != e {
		t.Fatalf("%s: Check answers %v, not %v", what, err, e)
	}
	want := ""
	if e == api.OK {
		want = raw(s)
	}
	if b, err := cktwo.Encode(s); b != want || err != e {
		t.Fatalf("%s: Encode answers %q and %v, not %q and %v", what, short(b), err, short(want), e)
	}
	switch most := mostContainers(s); {
	case e == api.OK:
		decoded(t, what, raw(s), s, e)
	case most <= 16:
		refused(t, what, raw(s), e)
	case most <= 255:
		// In bytes that is told as they are taken, ahead of all that Check tells.
		refused(t, what, raw(s), api.ErrFull)
	}
	if !untouched(s, before) {
		t.Fatalf("%s: the state isn't as it was", what)
	}
}

// mostContainers is how many containers that pod of a state has that has most.
func mostContainers(s cktwo.State) int {
	most := 0
	for _, p := range s.Pods {
		most = max(most, len(p.Containers))
	}
	return most
}

// P18.1, P18.2: the chapter's example.
func TestExample(t *testing.T) {
	s := cktwo.State{Seq: 1}
	b, e := cktwo.Encode(s)
	if b != "\x00\x00\x00\x00\x00\x00\x00\x01\x00\x00" || e != api.OK {
		t.Errorf("the state of Seq 1 without Pods is %q, %v", b, e)
	}
	decoded(t, "the example", "\x00\x00\x00\x00\x00\x00\x00\x01\x00\x00", s, api.OK)
}

// R4: a state with a nil list of pods and one with an empty list are one, and so are a pod's containers.
func TestEmptyLists(t *testing.T) {
	for _, s := range []cktwo.State{{Seq: 5}, {Seq: 5, Pods: []cktwo.Pod{}}, {Seq: 5, Pods: make([]cktwo.Pod, 0, 3)}} {
		hold(t, "no pods", s, api.OK)
		if b, _ := cktwo.Encode(s); b != "\x00\x00\x00\x00\x00\x00\x00\x05\x00\x00" {
			t.Errorf("the bytes of no pods are %q", b)
		}
	}
	for _, l := range [][]cktwo.Container{nil, {}, make([]cktwo.Container, 0, 3), plain().Pods[1].Containers[:0]} {
		for i := range plain().Pods {
			s := plain()
			s.Pods[i].Containers = l
			hold(t, "no containers", s, api.ErrNone)
		}
	}
	hold(t, "the zero state", cktwo.State{}, api.OK)
	for _, seq := range []uint64{1, 255, 256, math.MaxUint32, math.MaxUint32 + 1, math.MaxInt64, math.MaxInt64 + 1, math.MaxUint64} {
		hold(t, "a Seq", cktwo.State{Seq: seq}, api.OK)
	}
}
