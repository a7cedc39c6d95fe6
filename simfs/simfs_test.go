package simfs_test

import (
	"fmt"
	"maps"
	"math"
	"slices"
	"strings"
	"testing"

	"bosun/api"
	"bosun/simfs"
)

// mostData is how many bytes a file has at most.
const mostData = 1 << 23

// files are all files of a system, by their names.
func files(t *testing.T, f *simfs.FS) map[string]string {
	t.Helper()
	names, e := f.List()
	if e != api.OK {
		t.Fatalf("List: %v", e)
	}
	m := map[string]string{}
	for _, name := range names {
		data, e := f.Read(name)
		if e != api.OK {
			t.Fatalf("Read(%q), which is listed: %v", name, e)
		}
		m[name] = data
	}
	if len(m) != len(names) {
		t.Fatalf("List is %q: a name stands there twice", names)
	}
	return m
}

// has holds the files of a system against what they should be.
func has(t *testing.T, what string, f *simfs.FS, want map[string]string) {
	t.Helper()
	if m := files(t, f); !maps.Equal(m, want) {
		t.Errorf("%s: the files are %q, not %q", what, m, want)
	}
}

// counts holds the numbers of a system against what they should be.
func counts(t *testing.T, what string, f *simfs.FS, steps, waiting int, down bool) {
	t.Helper()
	if f.Steps() != steps || f.Waiting() != waiting || f.Down() != down {
		t.Errorf("%s: Steps %d, Waiting %d, Down %t, not %d, %d, %t", what, f.Steps(), f.Waiting(), f.Down(), steps, waiting, down)
	}
}

// answers holds an error against what it should be.
func answers(t *testing.T, what string, e, want api.Errno) {
	t.Helper()
	if e != want {
		t.Errorf("%s answers %v, not %v", what, e, want)
	}
}

// well holds that all goes well.
func well(t *testing.T, l ...api.Errno) {
	t.Helper()
	for i, e := range l {
		if e != api.OK {
			t.Fatalf("call %d of %d answers %v", i, len(l), e)
		}
	}
}

// step is a call that is a step, of a file that is there, named old, and a name that is free, new.
type step struct {
	what string
	do   func(f *simfs.FS) api.Errno
}

// goodSteps are steps of each kind that go well, if a file is under old.
func goodSteps() []step {
	return []step{
		{"Write of a new file", func(f *simfs.FS) api.Errno { return f.Write("new", "x") }},
		{"Write of an old file", func(f *simfs.FS) api.Errno { return f.Write("old", "x") }},
		{"Sync", func(f *simfs.FS) api.Errno { return f.Sync("old") }},
		{"Rename", func(f *simfs.FS) api.Errno { return f.Rename("old", "new") }},
		{"Remove", func(f *simfs.FS) api.Errno { return f.Remove("old") }},
		{"SyncDir", func(f *simfs.FS) api.Errno { return f.SyncDir() }},
	}
}

// badStep is a step that is refused, and why.
type badStep struct {
	step
	want api.Errno
}

// badSteps are steps that are refused, if a file is under old, and none under new.
func badSteps() []badStep {
	tooLong := strings.Repeat("x", mostData+1)
	return []badStep{
		{step{"Write of no name", func(f *simfs.FS) api.Errno { return f.Write("Old", "x") }}, api.ErrName},
		{step{"Write of no name, and too much", func(f *simfs.FS) api.Errno { return f.Write("", tooLong) }}, api.ErrName},
		{step{"Write of too much, of a new file", func(f *simfs.FS) api.Errno { return f.Write("new", tooLong) }}, api.ErrLong},
		{step{"Write of too much, of an old file", func(f *simfs.FS) api.Errno { return f.Write("old", tooLong) }}, api.ErrLong},
		{step{"Sync of no name", func(f *simfs.FS) api.Errno { return f.Sync("old ") }}, api.ErrName},
		{step{"Sync of no file", func(f *simfs.FS) api.Errno { return f.Sync("new") }}, api.ErrNone},
		{step{"Rename from no name", func(f *simfs.FS) api.Errno { return f.Rename("", "new") }}, api.ErrName},
		{step{"Rename to no name", func(f *simfs.FS) api.Errno { return f.Rename("old", "") }}, api.ErrName},
		{step{"Rename of no file to no name", func(f *simfs.FS) api.Errno { return f.Rename("new", "") }}, api.ErrName},
		{step{"Rename from no name to no name", func(f *simfs.FS) api.Errno { return f.Rename("\x00", "\x00") }}, api.ErrName},
		{step{"Rename of no file", func(f *simfs.FS) api.Errno { return f.Rename("new", "old") }}, api.ErrNone},
		{step{"Rename of no file to itself", func(f *simfs.FS) api.Errno { return f.Rename("new", "new") }}, api.ErrNone},
		{step{"Remove of no name", func(f *simfs.FS) api.Errno { return f.Remove("öld") }}, api.ErrName},
		{step{"Remove of no file", func(f *simfs.FS) api.Errno { return f.Remove("new") }}, api.ErrNone},
	}
}

// withOld is a system of a file old, safe in all, of three steps.
func withOld(t *testing.T) *simfs.FS {
	t.Helper()
	f := simfs.New()
	well(t, f.Write("old", "safe"), f.Sync("old"), f.SyncDir())
	return f
}

// P4.1, P4.2
func TestNew(t *testing.T) {
	f, g := simfs.New(), simfs.New()
	has(t, "a new system", f, nil)
	counts(t, "a new system", f, 0, 0, false)
	if l, e := f.List(); len(l) != 0 || e != api.OK {
		t.Errorf("List of a new system is %q and %v", l, e)
	}
	for range 100 {
		well(t, f.SyncDir())
	}
	well(t, f.Write("a", "x"))
	has(t, "another system", g, nil)
	counts(t, "another system", g, 0, 0, false)
}

// P4.1
func TestWrite(t *testing.T) {
	f := simfs.New()
	well(t, f.Write("a", "one"))
	has(t, "a new file", f, map[string]string{"a": "one"})
	counts(t, "a new file", f, 1, 1, false)
	well(t, f.Write("a", ""), f.Write("b", "\x00\xff two"), f.Write("a", "three"))
	has(t, "files written again", f, map[string]string{"a": "three", "b": "\x00\xff two"})
	counts(t, "files written again", f, 4, 2, false)
	well(t, f.Write("c", ""))
	has(t, "an empty file", f, map[string]string{"a": "three", "b": "\x00\xff two", "c": ""})
	counts(t, "an empty file", f, 5, 3, false)
}

// P4.1
func TestWriteOfTheMost(t *testing.T) {
	f := simfs.New()
	most := strings.Repeat("x", mostData-1) + "y"
	well(t, f.Write("a", most), f.Sync("a"), f.SyncDir())
	f.Crash(0)
	if s, e := f.Read("a"); s != most || e != api.OK {
		t.Errorf("of %d bytes %d are read, and %v", len(most), len(s), e)
	}
	answers(t, "Write of one byte more, of a new file", f.Write("b", most+"z"), api.ErrLong)
	answers(t, "Write of one byte more, of an old file", f.Write("a", most+"z"), api.ErrLong)
	if s, _ := f.Read("a"); s != most {
		t.Errorf("a Write that is refused leaves %d bytes", len(s))
	}
	if l, _ := f.List(); !slices.Equal(l, []string{"a"}) {
		t.Errorf("behind a Write that is refused the files are %q", l)
	}
	counts(t, "behind a Write that is refused", f, 5, 0, false)
}

// P4.1
func TestSyncChangesNothingNow(t *testing.T) {
	f := simfs.New()
	well(t, f.Write("a", "one"), f.Write("b", "two"), f.Sync("a"), f.Sync("a"))
	has(t, "Sync", f, map[string]string{"a": "one", "b": "two"})
	counts(t, "Sync", f, 4, 2, false)
}

// P4.1
func TestRename(t *testing.T) {
	f := simfs.New()
	well(t, f.Write("a", "one"), f.Rename("a", "b"))
	has(t, "Rename", f, map[string]string{"b": "one"})
	counts(t, "Rename", f, 2, 2, false)
	well(t, f.Write("a", "two"), f.Rename("a", "b"))
	has(t, "Rename onto a name that is taken", f, map[string]string{"b": "two"})
	counts(t, "Rename onto a name that is taken", f, 4, 4, false)
	well(t, f.Rename("b", "b"))
	has(t, "Rename to itself", f, map[string]string{"b": "two"})
	counts(t, "Rename to itself", f, 5, 5, false)
	answers(t, "Sync of the elder name", f.Sync("a"), api.ErrNone)
	well(t, f.Write("a", "three"), f.Write("b", "four"))
	has(t, "both written behind it", f, map[string]string{"a": "three", "b": "four"})
}

// P4.1
func TestRemove(t *testing.T) {
	f := simfs.New()
	well(t, f.Write("a", "one"), f.Write("b", "two"), f.Remove("a"))
	has(t, "Remove", f, map[string]string{"b": "two"})
	counts(t, "Remove", f, 3, 3, false)
	answers(t, "Remove once more", f.Remove("a"), api.ErrNone)
	well(t, f.Write("a", "three"))
	has(t, "written again", f, map[string]string{"a": "three", "b": "two"})
	counts(t, "written again", f, 5, 4, false)
}

// P4.1
func TestSyncDir(t *testing.T) {
	f := simfs.New()
	well(t, f.Write("a", "one"), f.Write("b", "two"), f.Rename("a", "c"), f.Remove("b"))
	counts(t, "ahead of SyncDir", f, 4, 4, false)
	well(t, f.SyncDir())
	has(t, "SyncDir", f, map[string]string{"c": "one"})
	counts(t, "SyncDir", f, 5, 0, false)
	well(t, f.Write("c", "three"), f.Sync("c"), f.SyncDir())
	counts(t, "without deeds", f, 8, 0, false)
}

// P4.1: what a name is, in all calls that take one.
func TestNames(t *testing.T) {
	const letters = "abcdefghijklmnopqrstuvwxyz0123456789._-/"
	most := strings.Repeat("x", 63)
	for b := range 256 {
		c := string([]byte{byte(b)})
		name := strings.Contains(letters, c)
		for _, s := range []string{c, "a" + c + "a", most + c} {
			holdsName(t, s, name)
		}
		holdsName(t, most+"x"+c, false)
	}
	for _, s := range []string{"pods/a.json", "state.tmp", "..", "//", "/a/", strings.Repeat("/", 64)} {
		holdsName(t, s, true)
	}
	for _, s := range []string{"", "é", "a b", "A", "a\n", "\x00", strings.Repeat("x", 65), strings.Repeat("x", 1<<20)} {
		holdsName(t, s, false)
	}
}

// holdsName holds that a text is a name, or none, for each call that takes one.
func holdsName(t *testing.T, s string, name bool) {
	t.Helper()
	f := simfs.New()
	well(t, f.Write("source", ""))
	read := func() api.Errno {
		_, e := f.Read(s)
		return e
	}
	none := []api.Errno{read(), f.Sync(s), f.Rename(s, "b"), f.Remove(s)}
	some := []api.Errno{f.Rename("source", s), f.Write(s, ""), read(), f.Sync(s), f.Rename(s, s), f.Remove(s)}
	wantNone, wantSome := api.ErrName, api.ErrName
	if name {
		wantNone, wantSome = api.ErrNone, api.OK
	}
	for _, e := range none {
		answers(t, fmt.Sprintf("a call without a file, of %.70q", s), e, wantNone)
	}
	for _, e := range some {
		answers(t, fmt.Sprintf("a call with a file, of %.70q", s), e, wantSome)
	}
}

// P4.1: what is refused changes nothing, but is a step.
func TestRefusedSteps(t *testing.T) {
	for _, c := range badSteps() {
		f := withOld(t)
		answers(t, c.what, c.do(f), c.want)
		has(t, c.what, f, map[string]string{"old": "safe"})
		counts(t, c.what, f, 4, 0, false)
		f.Crash(5, 5)
		has(t, c.what+", and a crash", f, map[string]string{"old": "safe"})
	}
}

// P4.1, P4.2: ErrDown is ahead of all, of the step that makes it down, and of those behind.
func TestDownIsAheadOfAll(t *testing.T) {
	for _, c := range badSteps() {
		f := withOld(t)
		f.Arm(0)
		answers(t, c.what+", which makes it down", c.do(f), api.ErrDown)
		counts(t, c.what+", which makes it down", f, 3, 0, true)
		answers(t, c.what+", while it is down", c.do(f), api.ErrDown)
		counts(t, c.what+", while it is down", f, 3, 0, true)
	}
}

// P4.1, P4.2: a system that is down does nothing.
func TestDownDoesNothing(t *testing.T) {
	for _, c := range goodSteps() {
		f := withOld(t)
		well(t, f.Write("b", "waits"))
		f.Arm(0)
		for range 3 {
			answers(t, c.what, c.do(f), api.ErrDown)
			counts(t, c.what, f, 4, 1, true)
		}
		for _, name := range []string{"old", "none", "", "No name"} {
			if s, e := f.Read(name); s != "" || e != api.ErrDown {
				t.Errorf("Read(%q), while it is down, is %q and %v", name, s, e)
			}
		}
		if l, e := f.List(); len(l) != 0 || e != api.ErrDown {
			t.Errorf("List, while it is down, is %q and %v", l, e)
		}
		f.Crash(1, 2)
		has(t, c.what, f, map[string]string{"old": "safe", "b": "wa"})
		counts(t, c.what+", and a crash", f, 4, 0, false)
	}
}

// P4.2
func TestRead(t *testing.T) {
	f := simfs.New()
	well(t, f.Write("a", "one"))
	for _, c := range []struct {
		name, want string
		e          api.Errno
	}{
		{"a", "one", api.OK},
		{"b", "", api.ErrNone},
		{"", "", api.ErrName},
		{"A", "", api.ErrName},
		{strings.Repeat("a", 64), "", api.ErrNone},
		{strings.Repeat("a", 65), "", api.ErrName},
	} {
		if s, e := f.Read(c.name); s != c.want || e != c.e {
			t.Errorf("Read(%q) is %q and %v, not %q and %v", c.name, s, e, c.want, c.e)
		}
	}
	counts(t, "Read, which is no step", f, 1, 1, false)
}

// P4.2: names rise byte by byte; what is handed out is memory of its own.
func TestList(t *testing.T) {
	want := []string{"-", ".", "/", "0", "9", "_", "a", "a-", "a.", "a/", "a/b", "a0", "a_", "aa", "b", "z"}
	f := simfs.New()
	for i := range want {
		well(t, f.Write(want[i*7%len(want)], ""))
	}
	for range 2 {
		l, e := f.List()
		if !slices.Equal(l, want) || e != api.OK {
			t.Fatalf("List is %q and %v", l, e)
		}
		for i := range l {
			l[i] = "changed"
		}
		_ = append(l, "changed")
	}
	counts(t, "List, which is no step", f, len(want), len(want), false)
}

// P4.2: an armed system does just so many steps, whatever they are, and then goes down.
func TestArm(t *testing.T) {
	for n := range 8 {
		f := simfs.New()
		f.Arm(n)
		for i := range n {
			answers(t, "a step that is left", f.SyncDir(), api.OK)
			counts(t, "a step that is left", f, i+1, 0, false)
		}
		has(t, "no step is left", f, nil)
		answers(t, "the step behind these", f.Write("a", ""), api.ErrDown)
		counts(t, "the step behind these", f, n, 0, true)
		f.Crash(0)
		well(t, f.Write("a", ""))
		counts(t, "behind the crash", f, n+1, 1, false)
	}
}

// P4.2: all kinds of steps are counted, refused ones, too; what isn't a step isn't.
func TestWhichCallsAreSteps(t *testing.T) {
	all := goodSteps()
	for _, c := range badSteps() {
		all = append(all, c.step)
	}
	for _, c := range all {
		f := withOld(t)
		f.Arm(1)
		notSteps(f)
		if c.do(f) == api.ErrDown {
			t.Errorf("%s, armed with 1, answers ErrDown", c.what)
		}
		notSteps(f)
		if f.Steps() != 4 || f.Down() {
			t.Errorf("%s, armed with 1: Steps %d, Down %t", c.what, f.Steps(), f.Down())
		}
		answers(t, "the step behind "+c.what, f.SyncDir(), api.ErrDown)
	}
}

// notSteps makes the calls that aren't steps, many of them, some of which are refused.
func notSteps(f *simfs.FS) {
	for range 5 {
		f.Read("old")
		f.Read("none")
		f.Read("")
		f.List()
		f.Down()
		f.Steps()
		f.Waiting()
	}
}

// P4.2: the last arming counts; below 0 it isn't armed at all.
func TestArmAgain(t *testing.T) {
	f := simfs.New()
	f.Arm(5)
	well(t, f.SyncDir(), f.SyncDir())
	f.Arm(1)
	well(t, f.SyncDir())
	f.Arm(2)
	well(t, f.SyncDir(), f.SyncDir())
	for _, n := range []int{-1, -2, math.MinInt} {
		f.Arm(0)
		f.Arm(n)
		well(t, f.SyncDir(), f.SyncDir())
	}
	f.Arm(math.MaxInt)
	well(t, f.SyncDir(), f.SyncDir())
	f.Arm(0)
	answers(t, "a step, armed with 0 at last", f.SyncDir(), api.ErrDown)
	counts(t, "at last", f, 13, 0, true)
}

// P4.2: arming a system that is down neither wakes it, nor outlasts the crash.
func TestArmWhileDown(t *testing.T) {
	for _, n := range []int{math.MinInt, -1, 0, 1, 5, math.MaxInt} {
		f := withOld(t)
		f.Arm(0)
		answers(t, "the step that makes it down", f.SyncDir(), api.ErrDown)
		f.Arm(n)
		for range 3 {
			answers(t, "a step while it is down", f.SyncDir(), api.ErrDown)
		}
		counts(t, "armed while down", f, 3, 0, true)
		f.Crash(0)
		for range 10 {
			answers(t, "a step behind the crash", f.SyncDir(), api.OK)
		}
		counts(t, "behind the crash", f, 13, 0, false)
	}
}

// P4.2: a crash is no step, needs no system that is down, and leaves none armed.
func TestCrashDisarms(t *testing.T) {
	for n := range 3 {
		f := withOld(t)
		f.Arm(n)
		f.Crash(0)
		counts(t, "a crash", f, 3, 0, false)
		has(t, "a crash", f, map[string]string{"old": "safe"})
		for range 5 {
			well(t, f.SyncDir())
		}
	}
}
