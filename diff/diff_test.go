package diff_test

import (
	"fmt"
	"math"
	"reflect"
	"slices"
	"testing"

	"bosun/ckthree"
	"bosun/diff"
	"bosun/spec"
)

// named is a pod of a name, that may be.
func named(name string) spec.Pod {
	return spec.Pod{Name: name, Namespace: "default", Grace: 30, Containers: []spec.Container{{Name: "c", Image: "nginx", Cpu: 100, Memory: 64}}}
}

// state is a state of Files, each with its pod's name behind it; pods of one name are alike.
func state(texts ...string) ckthree.State {
	s := ckthree.State{Seq: 1}
	for i := 0; i < len(texts); i += 2 {
		s.Pods = append(s.Pods, ckthree.Pod{File: texts[i], Pod: named(texts[i+1])})
	}
	return s
}

// lines are the events' lines.
func lines(l []diff.Event) []string {
	var said []string
	for _, e := range l {
		said = append(said, e.String())
	}
	return said
}

// gives holds what is answered against what should be.
func gives(t *testing.T, what string, l, want []diff.Event) {
	t.Helper()
	if !slices.Equal(l, want) {
		t.Errorf("%s: %q, want %q", what, l, want)
	}
}

// tells holds the lines of what changed from one state to another one.
func tells(t *testing.T, a, b ckthree.State, want ...string) {
	t.Helper()
	if l := lines(diff.Between(a, b)); !slices.Equal(l, want) {
		t.Errorf("from %v to %v: %q, want %q", a, b, l, want)
	}
}

// turned are the events of the other way round: what was added is removed; names are those of that way's second state.
func turned(l []diff.Event, to ckthree.State) []diff.Event {
	var back []diff.Event
	for _, e := range l {
		switch e.Kind {
		case diff.Add:
			e.Kind = diff.Remove
		case diff.Remove:
			e.Kind = diff.Add
		case diff.Update:
			p, _ := to.Find(e.File)
			e.Name = p.Name
		}
		back = append(back, e)
	}
	return back
}

// holdBoth holds what changed from one state to another one, and the other way round, and that from each to itself, and
// to one that is like it, nothing did.
func holdBoth(t *testing.T, what string, a, b ckthree.State, want []diff.Event) {
	t.Helper()
	gives(t, what+", there", diff.Between(a, b), want)
	gives(t, what+", back", diff.Between(b, a), turned(want, a))
	for i, s := range []ckthree.State{a, b} {
		gives(t, fmt.Sprint(what, ", to itself ", i), diff.Between(s, s), nil)
		gives(t, fmt.Sprint(what, ", to its like ", i), diff.Between(s, copied(s)), nil)
	}
}

// copied is a state like another one, that shares no list with it, and has what stands behind its lists' ends.
func copied(s ckthree.State) ckthree.State {
	s.Pods = whole(s.Pods)
	for i := range s.Pods[:cap(s.Pods)] {
		p := &s.Pods[:cap(s.Pods)][i].Pod
		*p = copiedPod(*p)
	}
	return s
}

// copiedPod is such a pod.
func copiedPod(p spec.Pod) spec.Pod {
	p.Containers = whole(p.Containers)
	for i := range p.Containers[:cap(p.Containers)] {
		c := &p.Containers[:cap(p.Containers)][i]
		c.Command, c.Ports, c.Env = whole(c.Command), whole(c.Ports), whole(c.Env)
	}
	return p
}

// whole is a list like another one, with what stands behind its end.
func whole[T any](l []T) []T {
	if l == nil {
		return nil
	}
	m := make([]T, cap(l))
	copy(m, l[:cap(l)])
	return m[:len(l)]
}

// laidOpen is a state whose lists end where their room does.
func laidOpen(s ckthree.State) ckthree.State {
	s = copied(s)
	s.Pods = s.Pods[:cap(s.Pods)]
	for i := range s.Pods {
		p := &s.Pods[i].Pod
		p.Containers = p.Containers[:cap(p.Containers)]
		for k := range p.Containers {
			c := &p.Containers[k]
			c.Command, c.Ports, c.Env = c.Command[:cap(c.Command)], c.Ports[:cap(c.Ports)], c.Env[:cap(c.Env)]
		}
	}
	return s
}

// stays holds that a state, with the room behind its lists' ends, is as it was.
func stays(t *testing.T, what string, now, before ckthree.State) {
	t.Helper()
	if !reflect.DeepEqual(now, before) || !reflect.DeepEqual(laidOpen(now), laidOpen(before)) {
		t.Errorf("%s: %v was changed to %v", what, before, now)
	}
}

// The chapter's example.
func TestExample(t *testing.T) {
	tells(t, ckthree.State{}, state("a", "web"), "add a web")
	gives(t, "the example", diff.Between(ckthree.State{}, state("a", "web")), []diff.Event{{Kind: diff.Add, File: "a", Name: "web"}})
}

// The numbers of the Kinds.
func TestNumbers(t *testing.T) {
	for i, k := range []diff.Kind{diff.Add, diff.Update, diff.Remove} {
		if int(k) != i {
			t.Errorf("the Kind %d is %d", i, int(k))
		}
	}
}

// kindWords are Kinds and their words.
func kindWords() map[diff.Kind]string {
	m := map[diff.Kind]string{0: "add", 1: "update", 2: "remove"}
	for _, k := range []diff.Kind{-1, -2, -3, -256, 3, 4, 5, 127, 128, 255, 256, 257, 258, 1<<16 + 1, 1 << 32, 1<<32 + 1, 1<<32 + 2,
		-1 << 32, math.MinInt, math.MinInt + 1, math.MinInt + 2, math.MaxInt - 1, math.MaxInt} {
		m[k] = "none"
	}
	return m
}

// P23.1: a Kind's word.
func TestKindString(t *testing.T) {
	for k, want := range kindWords() {
		for range 2 {
			if s := k.String(); s != want {
				t.Errorf("the Kind %d: %q, want %q", int(k), s, want)
			}
		}
	}
	for k := diff.Kind(-1000); k <= 1000; k++ {
		if s := k.String(); (s == "none") != (k < 0 || k > 2) {
			t.Errorf("the Kind %d: %q", int(k), s)
		}
	}
}

// P23.1: an event's line: its Kind's word, a blank, its File, a blank, its Name, whatever these are.
func TestEventString(t *testing.T) {
	texts := []string{"", "a", "web", " ", "  ", " a ", "a b", "\x00", "\xff\xfe", "é", "\n", "pods/a.json", "add", "none", "%s", "\"a\"", "\\"}
	for k, word := range kindWords() {
		for _, file := range texts {
			for _, name := range texts {
				e := diff.Event{Kind: k, File: file, Name: name}
				if s, want := e.String(), word+" "+file+" "+name; s != want {
					t.Errorf("%d %q %q: %q, want %q", int(k), file, name, s, want)
				}
			}
		}
	}
	for line, e := range map[string]diff.Event{
		"add a web":                  {Kind: diff.Add, File: "a", Name: "web"},
		"update pods/a.json web.one": {Kind: diff.Update, File: "pods/a.json", Name: "web.one"},
		"remove pods/a.yaml db":      {Kind: diff.Remove, File: "pods/a.yaml", Name: "db"},
		"none a web":                 {Kind: 3, File: "a", Name: "web"},
		"add  ":                      {},
		"update  b":                  {Kind: diff.Update, Name: "b"},
		"remove a ":                  {Kind: diff.Remove, File: "a"},
	} {
		if s := e.String(); s != line {
			t.Errorf("%v: %q, want %q", e, s, line)
		}
	}
}
