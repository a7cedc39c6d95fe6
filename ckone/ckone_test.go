package ckone_test

import (
	"encoding/binary"
	"math"
	"reflect"
	"slices"
	"strings"
	"testing"

	"bosun/api"
	"bosun/ckone"
	"bosun/simfs"
)

// plain is a state of pods that may be.
func plain() ckone.State {
	return ckone.State{Seq: 7, Pods: []ckone.Pod{
		{File: "a.json", Name: "web", Image: "nginx", Restart: 0},
		{File: "b/c.yaml", Name: "db.main", Image: "docker.io/pg:9", Restart: 1},
		{File: "b/d_1", Name: "x", Image: "x", Restart: 2},
		{File: "b/d_1.json", Name: "x", Image: "x", Restart: 2},
		{File: "z", Name: "0-0", Image: "0A@", Restart: 1},
	}}
}

// copyOf is a copy of a state in memory of its own, with what stands behind the end of its list.
func copyOf(s ckone.State) ckone.State {
	s.Pods = slices.Clone(s.Pods[:cap(s.Pods)])[:len(s.Pods)]
	return s
}

// equal says whether two states are alike, a nil list and an empty one, too.
func equal(s, t ckone.State) bool {
	return s.Seq == t.Seq && len(s.Pods) == len(t.Pods) && (len(s.Pods) == 0 || reflect.DeepEqual(s.Pods, t.Pods))
}

// number is a number's bytes, text a text's, whatever their lengths.
func number(n int, v uint64) string {
	b := binary.BigEndian.AppendUint64(nil, v)
	return string(b[8-n:])
}

func text(s string) string { return number(2, uint64(len(s))) + s }

// bytesOf are a pod's bytes, whether it may be or not; raw are a state's.
func bytesOf(p ckone.Pod) string {
	return text(p.File) + text(p.Name) + text(p.Image) + string([]byte{p.Restart})
}

func raw(s ckone.State) string {
	var b strings.Builder
	b.WriteString(number(4, uint64(s.Seq)) + number(2, uint64(len(s.Pods))))
	for _, p := range s.Pods {
		b.WriteString(bytesOf(p))
	}
	return b.String()
}

// short is as much of a text as is worth showing.
func short(s string) string { return s[:min(len(s), 200)] }

// decoded holds what bytes are decoded as: a state, or the zero one and an error.
func decoded(t *testing.T, what, b string, want ckone.State, e api.Errno) {
	t.Helper()
	s, err := ckone.Decode(b)
	if e != api.OK && (s.Seq != 0 || len(s.Pods) != 0) {
		t.Fatalf("%s: of %q: Decode answers pods, or a Seq, beside %v", what, short(b), err)
	}
	if err != e || !equal(s, want) {
		t.Fatalf("%s: of %q: Decode answers %d pods and %v, not %d and %v", what, short(b), len(s.Pods), err, len(want.Pods), e)
	}
	if e != api.OK {
		return
	}
	if again, err := ckone.Encode(s); again != b || err != api.OK {
		t.Fatalf("%s: what %q is decoded as is encoded as %q, %v", what, short(b), short(again), err)
	}
}

// refused holds that bytes are refused, and for which error.
func refused(t *testing.T, what, b string, e api.Errno) {
	t.Helper()
	decoded(t, what, b, ckone.State{}, e)
}

// hold holds what is wrong with a state, that it is encoded if it may be, and what its bytes are decoded as; a state that
// has a text above 4096 bytes isn't for that.
func hold(t *testing.T, what string, s ckone.State, e api.Errno) {
	t.Helper()
	before := copyOf(s)
	if err := s.Check(); err != e {
		t.Fatalf("%s: Check answers %v, not %v", what, err, e)
	}
	want := ""
	if e == api.OK {
		want = raw(s)
	}
	if b, err := ckone.Encode(s); b != want || err != e {
		t.Fatalf("%s: Encode answers %q and %v, not %q and %v", what, short(b), err, short(want), e)
	}
	if e == api.OK {
		decoded(t, what, raw(s), s, e)
	} else {
		refused(t, what, raw(s), e)
	}
	if !equal(s, before) || !slices.Equal(s.Pods[:cap(s.Pods)], before.Pods[:cap(s.Pods)]) {
		t.Fatalf("%s: the state isn't as it was", what)
	}
}

// P17.1, P17.2: the chapter's example.
func TestExample(t *testing.T) {
	s := ckone.State{Seq: 1}
	b, e := ckone.Encode(s)
	if b != "\x00\x00\x00\x01\x00\x00" || e != api.OK {
		t.Errorf("the state of Seq 1 without Pods is %q, %v", b, e)
	}
	decoded(t, "the example", "\x00\x00\x00\x01\x00\x00", s, api.OK)
}

// P17.1: a file's name is one of layer 4: each byte, alone, ahead, within and behind.
func TestFileOfBytes(t *testing.T) {
	const may = "abcdefghijklmnopqrstuvwxyz0123456789._-/"
	for i := range 256 {
		c := string([]byte{byte(i)})
		want := strings.Contains(may, c)
		for _, s := range []string{c, c + "a", "a" + c, "a" + c + "a", c + c, strings.Repeat("a", 63) + c} {
			holdFile(t, s, want)
		}
	}
}

// holdFile holds whether a text is a file's name, and that a file system says so, too.
func holdFile(t *testing.T, s string, want bool) {
	t.Helper()
	if ckone.File(s) != want {
		t.Errorf("File of %q is %t", short(s), !want)
	}
	if e := simfs.New().Write(s, ""); (e == api.OK) != want {
		t.Errorf("a file system answers %v of %q", e, short(s))
	}
}

// P17.1: how long a file's name may be, and texts that are none.
func TestFileOfTexts(t *testing.T) {
	for n := range 200 {
		holdFile(t, strings.Repeat("a", n), 1 <= n && n <= 64)
		holdFile(t, strings.Repeat("/", n), 1 <= n && n <= 64)
		holdFile(t, strings.Repeat("a", n)+"A", false)
		holdFile(t, strings.Repeat("é", n), false)
	}
	for _, n := range []int{255, 256, 257, 4096, 65536, 65537, 1 << 20} {
		holdFile(t, strings.Repeat("a", n), false)
	}
	for _, s := range []string{".", "..", "-", "_", "/", "//", "/a", "a/", "../a", "pods/a.json", "a b-", "a.b.c"} {
		holdFile(t, s, !strings.Contains(s, " "))
	}
	for _, s := range []string{"\x00", "a\x00", "a\n", "\xff", "a\u0101", "\u0661", "\uff41", "a:", "a\\b", "~", "*"} {
		holdFile(t, s, false)
	}
}

// R4: a state with a nil list of pods and one with an empty list are one.
func TestEmptyLists(t *testing.T) {
	for _, s := range []ckone.State{{Seq: 5}, {Seq: 5, Pods: []ckone.Pod{}}, {Seq: 5, Pods: make([]ckone.Pod, 0, 3)}} {
		hold(t, "no pods", s, api.OK)
		if b, _ := ckone.Encode(s); b != "\x00\x00\x00\x05\x00\x00" {
			t.Errorf("the bytes of no pods are %q", b)
		}
	}
	hold(t, "the zero state", ckone.State{}, api.OK)
	hold(t, "the greatest Seq", ckone.State{Seq: math.MaxUint32}, api.OK)
}
