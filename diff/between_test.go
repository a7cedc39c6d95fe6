package diff_test

import (
	"fmt"
	"math"
	"slices"
	"strings"
	"testing"
	"unsafe"

	"bosun/ckthree"
	"bosun/diff"
	"bosun/spec"
)

// P23.1: from nothing, and to nothing.
func TestNothing(t *testing.T) {
	none := ckthree.State{}
	tells(t, none, none)
	tells(t, none, ckthree.State{Pods: []ckthree.Pod{}})
	tells(t, ckthree.State{Pods: []ckthree.Pod{}}, none)
	tells(t, none, state("a", "web"), "add a web")
	tells(t, state("a", "web"), none, "remove a web")
	tells(t, none, state("", ""), "add  ")
	tells(t, state("", ""), none, "remove  ")
	tells(t, none, state("a", "x", "b", "y", "c", "x"), "add a x", "add b y", "add c x")
	tells(t, state("a", "x", "b", "y", "c", "x"), none, "remove a x", "remove b y", "remove c x")
}

// P23.1: what changed, of Files that one state has or that both have, wherever these stand.
func TestBetween(t *testing.T) {
	abc := state("a", "x", "b", "y", "c", "z")
	tells(t, abc, abc)
	tells(t, state("b", "y", "c", "z"), abc, "add a x")
	tells(t, state("a", "x", "c", "z"), abc, "add b y")
	tells(t, state("a", "x", "b", "y"), abc, "add c z")
	tells(t, abc, state("b", "y", "c", "z"), "remove a x")
	tells(t, abc, state("a", "x", "c", "z"), "remove b y")
	tells(t, abc, state("a", "x", "b", "y"), "remove c z")
	tells(t, abc, state("a", "new", "b", "y", "c", "z"), "update a new")
	tells(t, abc, state("a", "x", "b", "new", "c", "z"), "update b new")
	tells(t, abc, state("a", "x", "b", "y", "c", "new"), "update c new")
	tells(t, abc, state("a", "y", "b", "z", "c", "x"), "update a y", "update b z", "update c x")
	tells(t, abc, state("d", "x", "e", "y", "f", "z"), "remove a x", "remove b y", "remove c z", "add d x", "add e y", "add f z")
	tells(t, state("d", "x", "e", "y", "f", "z"), abc, "add a x", "add b y", "add c z", "remove d x", "remove e y", "remove f z")
	tells(t, state("a", "x", "c", "x", "e", "x"), state("b", "y", "d", "y", "f", "y"),
		"remove a x", "add b y", "remove c x", "add d y", "remove e x", "add f y")
	tells(t, state("a", "x", "b", "x", "d", "x", "e", "x", "g", "x"), state("b", "x", "c", "x", "d", "y", "f", "x", "g", "z"),
		"remove a x", "add c x", "update d y", "remove e x", "add f x", "update g z")
	tells(t, state("b", "x", "c", "x"), state("a", "x", "b", "y", "d", "x"), "add a x", "update b y", "remove c x", "add d x")
}

// P23.1: a File is the same one just if all its bytes are: those that say the same pod are another's, too.
func TestFilesAlike(t *testing.T) {
	tells(t, state("a", "x"), state("A", "x"), "add A x", "remove a x")
	tells(t, state("a", "x"), state("a\x00", "x"), "remove a x", "add a\x00 x")
	tells(t, state("pods/a.json", "x"), state("pods/a.yaml", "x"), "remove pods/a.json x", "add pods/a.yaml x")
	tells(t, state("", "x"), state("a", "x"), "remove  x", "add a x")
	tells(t, state("", "x"), state("", "y"), "update  y")
	tells(t, state("é", "x"), state("e\u0301", "x"), "add e\u0301 x", "remove é x")
	long := strings.Repeat("pods/", 1000)
	tells(t, state(long+"a", "x"), state(long+"b", "x"), "remove "+long+"a x", "add "+long+"b x")
	tells(t, state(long, "x", long+"b", "x"), state(long+"a", "x", long+"b", "y"), "remove "+long+" x", "add "+long+"a x", "update "+long+"b y")
}

// rising are Files that rise by bytes: the empty one, such as are the beginning of others, and such as have bytes above 127.
func rising() []string {
	return []string{"", "\x00", " ", "A", "a", "a\x00", "a\x00a", "a!", "a.json", "a.yaml", "a/b", "aa", "ab", "b", "b\x7f", "b\x80", "b\xff",
		"b\xff\x00", "é", "é\x00", "ø", "\uffff", "\U0001f600", "\xff", "\xff\xff"}
}

// P23.1, P23.2: each two Files, alone or in both states, stand in the order of their bytes.
func TestOrder(t *testing.T) {
	files := rising()
	for i, low := range files {
		for _, high := range files[i+1:] {
			tells(t, state(low, "x"), state(high, "y"), "remove "+low+" x", "add "+high+" y")
			tells(t, state(high, "x"), state(low, "y"), "add "+low+" y", "remove "+high+" x")
			tells(t, state(low, "x", high, "x"), state(low, "y", high, "x"), "update "+low+" y")
			tells(t, state(low, "x", high, "x"), state(low, "x", high, "y"), "update "+high+" y")
			tells(t, state(low, "x"), state(low, "x", high, "x"), "add "+high+" x")
			tells(t, state(high, "x"), state(low, "x", high, "x"), "add "+low+" x")
		}
	}
	var all []string
	for _, f := range files {
		all = append(all, f, "x")
	}
	tells(t, state(all...), state(all...))
	if l := diff.Between(ckthree.State{}, state(all...)); len(l) != len(files) {
		t.Errorf("%d events of %d Files", len(l), len(files))
	}
}

// What becomes of a File from one state to another one.
const (
	inNone = iota
	inFirst
	inSecond
	inBothAlike
	inBothChanged
	ways
)

// pairOf is two states, and what changed from one to the other, in which of each File becomes what is chosen.
func pairOf(files []string, of func(i int) int) (a, b ckthree.State, want []diff.Event) {
	tell := func(k diff.Kind, file, name string) { want = append(want, diff.Event{Kind: k, File: file, Name: name}) }
	put := func(s *ckthree.State, file, name string) {
		s.Pods = append(s.Pods, ckthree.Pod{File: file, Pod: named(name)})
	}
	for i, file := range files {
		old, new := fmt.Sprint("old-", i), fmt.Sprint("new-", i)
		switch of(i) {
		case inFirst:
			put(&a, file, old)
			tell(diff.Remove, file, old)
		case inSecond:
			put(&b, file, new)
			tell(diff.Add, file, new)
		case inBothAlike:
			put(&a, file, old)
			put(&b, file, old)
		case inBothChanged:
			put(&a, file, old)
			put(&b, file, new)
			tell(diff.Update, file, new)
		}
	}
	return a, b, want
}

// P23.1, P23.2: all that may become of six Files.
func TestAllWays(t *testing.T) {
	files := []string{"", "a", "a.json", "a/b", "b", "\xff"}
	all := int(math.Pow(ways, float64(len(files))))
	for n := range all {
		a, b, want := pairOf(files, func(i int) int { return n / int(math.Pow(ways, float64(i))) % ways })
		holdBoth(t, fmt.Sprint("way ", n), a, b, want)
	}
}

// P23.1: rows of Files, one behind the other and by turns, up to as many as a state may have, and more.
func TestRows(t *testing.T) {
	for _, n := range []int{10, 100, 1023, 1024, 1025, 4000} {
		var files []string
		for i := range n {
			files = append(files, fmt.Sprintf("pods/%05d.json", i))
		}
		for way := range ways {
			for other := range ways {
				for _, row := range []int{1, 2, n / 2, n} {
					a, b, want := pairOf(files, func(i int) int { return []int{way, other}[i/row%2] })
					gives(t, fmt.Sprint(n, " Files of ", way, " and ", other, ", in rows of ", row), diff.Between(a, b), want)
				}
			}
		}
	}
}

// P23.1: states that differ in Seq alone.
func TestSeq(t *testing.T) {
	for _, seq := range []uint64{0, 1, 2, 255, 256, 1 << 32, 1 << 63, math.MaxUint64} {
		for _, pods := range [][]ckthree.Pod{nil, state("a", "x").Pods, state("a", "x", "b", "y").Pods} {
			a, b := ckthree.State{Seq: seq, Pods: pods}, ckthree.State{Seq: 1, Pods: pods}
			tells(t, a, b)
			tells(t, b, a)
		}
		a := state("a", "x")
		a.Seq = seq
		tells(t, a, state("a", "y", "b", "x"), "update a y", "add b x")
		tells(t, state("a", "y", "b", "x"), a, "update a x", "remove b x")
	}
}

// P23.1: states that may not be, but whose Files rise.
func TestWrongStates(t *testing.T) {
	odd := ckthree.State{Pods: []ckthree.Pod{
		{},
		{File: "\x00"},
		{File: "A b", Pod: spec.Pod{Name: "NO NAME", Grace: -1, Restart: 9}},
		{File: "a", Pod: spec.Pod{Name: "\xff", Grace: math.MinInt64, Containers: make([]spec.Container, 40)}},
		{File: "state", Pod: spec.Pod{Name: strings.Repeat("n", 5000), Restart: math.MinInt}},
	}}
	tells(t, odd, odd)
	tells(t, odd, copied(odd))
	tells(t, ckthree.State{}, odd, "add  ", "add \x00 ", "add A b NO NAME", "add a \xff", "add state "+strings.Repeat("n", 5000))
	tells(t, odd, ckthree.State{}, "remove  ", "remove \x00 ", "remove A b NO NAME", "remove a \xff", "remove state "+strings.Repeat("n", 5000))
	b := copied(odd)
	b.Pods[0].Pod.Host = true
	b.Pods[2].Pod.Grace = -2
	b.Pods[3].Pod.Containers[39].Cpu = -1
	b.Pods[4].Pod.Name = ""
	tells(t, odd, b, "update  ", "update A b NO NAME", "update a \xff", "update state ")
	tells(t, b, odd, "update  ", "update A b NO NAME", "update a \xff", "update state "+strings.Repeat("n", 5000))
}

// R6: states whose Files don't rise, or come twice: the call ends, and doesn't panic; R3, R5 hold all the same.
func TestFallingFiles(t *testing.T) {
	var all []ckthree.State
	files := []string{"", "a", "b"}
	for n := range 40 {
		var s ckthree.State
		for ; n > 0; n = (n - 1) / 3 {
			s.Pods = append(s.Pods, ckthree.Pod{File: files[(n-1)%3], Pod: named(files[n%2+1])})
		}
		all = append(all, s)
	}
	for _, a := range all {
		for _, b := range all {
			x, y := copied(a), copied(b)
			l := diff.Between(a, b)
			gives(t, fmt.Sprintf("from %v to %v once more", a, b), diff.Between(a, b), l)
			stays(t, "the first state", a, x)
			stays(t, "the second state", b, y)
		}
	}
}

// roomy is a state whose lists have room behind their ends, in which something stands.
func roomy() ckthree.State {
	s := state("a", "x", "b", "y", "c", "z", "d", "behind", "e", "behind")
	for i := range s.Pods {
		c := []spec.Container{{Name: "one", Command: []string{"serve", "-v", "behind"}[:2], Ports: []spec.Port{{Number: 80}, {Number: 1}}[:1],
			Env: []spec.Env{{Name: "HOME", Value: "/"}, {Name: "BEHIND"}}[:1]}, {Name: "two"}, {Name: "behind"}}
		s.Pods[i].Pod.Containers = c[:2]
	}
	s.Pods = s.Pods[:3]
	return s
}

// R3: what comes in stays as it is, with the room behind its end, and what is there doesn't count; what is handed out
// shares with nothing.
func TestMemory(t *testing.T) {
	a, b := roomy(), roomy()
	b.Pods[1].Pod.Host = true
	b.Pods[:5][3].File, b.Pods[:5][4].Pod.Name = "bb", "other"
	b.Pods[2].File = "cc"
	x, y := copied(a), copied(b)
	l := diff.Between(a, b)
	want := []diff.Event{{Kind: diff.Update, File: "b", Name: "y"}, {Kind: diff.Remove, File: "c", Name: "z"}, {Kind: diff.Add, File: "cc", Name: "z"}}
	gives(t, "with room", l, want)
	stays(t, "the first state", a, x)
	stays(t, "the second state", b, y)
	m := diff.Between(a, b)
	gives(t, "once more", m, want)
	for i := range l[:cap(l)] {
		l[:cap(l)][i] = diff.Event{Kind: 7, File: "written", Name: "over"}
	}
	gives(t, "the later answer", m, want)
	stays(t, "the first state, what was answered written over", a, x)
	stays(t, "the second state, what was answered written over", b, y)
	gives(t, "a third time", diff.Between(a, b), want)
	for i := range a.Pods {
		a.Pods[i], b.Pods[i] = ckthree.Pod{}, ckthree.Pod{}
	}
	gives(t, "what was answered, the states written over", m, want)
}

// R3: an event's texts are new memory.
func TestTexts(t *testing.T) {
	a := state("pods/a.json", "first", "pods/b.json", "second")
	b := state("pods/b.json", "third", "pods/c.json", "fourth")
	of := map[*byte]bool{}
	for _, p := range slices.Concat(a.Pods, b.Pods) {
		of[unsafe.StringData(p.File)], of[unsafe.StringData(p.Pod.Name)] = true, true
	}
	for _, e := range diff.Between(a, b) {
		if of[unsafe.StringData(e.File)] || of[unsafe.StringData(e.Name)] {
			t.Errorf("%q shares a text with a state", e)
		}
	}
}
