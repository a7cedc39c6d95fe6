package simfs_test

import (
	"fmt"
	"maps"
	"math"
	"math/rand"
	"slices"
	"testing"

	"bosun/api"
	"bosun/simfs"
)

// P4.2, P4.3: the chapter's example.
func TestExample(t *testing.T) {
	f := simfs.New()
	well(t, f.Write("a", "x"), f.Sync("a"))
	f.Crash(0)
	has(t, "without SyncDir", f, nil)
	well(t, f.Write("a", "x"), f.Sync("a"), f.SyncDir())
	f.Crash(0)
	has(t, "with SyncDir", f, map[string]string{"a": "x"})
}

// crashed holds what a crash leaves: behind it, and, for both contents are alike and both directories, behind more.
func crashed(t *testing.T, what string, f *simfs.FS, keep int, cuts []int, want map[string]string) {
	t.Helper()
	what = fmt.Sprintf("%s, Crash(%d, %d)", what, keep, cuts)
	f.Crash(keep, cuts...)
	has(t, what, f, want)
	counts(t, what, f, f.Steps(), 0, false)
	for _, cuts := range [][]int{nil, {0, 0, 0}, {9, 9, 9}, {-1, -1, -1}} {
		f.Crash(9, cuts...)
		has(t, what+", and one more", f, want)
	}
}

// P4.2: the first deeds that wait are done, as many as are kept.
func TestCrashKeepsTheFirstDeeds(t *testing.T) {
	// Behind each deed the files are these; those that wait begin at the second.
	states := []map[string]string{
		{"a": "A", "b": "B"},
		{"a": "A", "b": "B", "c": "C"},
		{"b": "A", "c": "C"},
		{"b": "A", "c": "C"},
		{"b": "A"},
		{"b": "A", "a": "D"},
		{"b": "D"},
		{"c": "D"},
	}
	last := len(states) - 1
	for _, keep := range []int{math.MinInt, -1, 0, 1, 2, 3, 4, 5, 6, 7, 8, 1 << 40, math.MaxInt} {
		f := simfs.New()
		well(t, f.Write("a", "A"), f.Sync("a"), f.Write("b", "B"), f.Sync("b"), f.SyncDir())
		well(t, f.Write("c", "C"), f.Sync("c"), f.Rename("a", "b"), f.Rename("c", "c"), f.Remove("c"))
		well(t, f.Write("a", "D"), f.Sync("a"), f.Rename("a", "b"), f.Rename("b", "c"))
		has(t, "ahead of the crash", f, states[last])
		counts(t, "ahead of the crash", f, 14, last, false)
		crashed(t, "deeds", f, keep, nil, states[min(max(keep, 0), last)])
	}
}

// P4.2: what is under a name behind a crash is what later deeds find, and they wait from there on.
func TestDeedsBehindACrash(t *testing.T) {
	f := simfs.New()
	well(t, f.Write("a", "A"), f.Sync("a"), f.SyncDir(), f.Rename("a", "b"), f.Rename("b", "c"))
	f.Crash(1)
	answers(t, "Rename of a name that is gone", f.Rename("a", "d"), api.ErrNone)
	answers(t, "Rename of a name that wasn't kept", f.Rename("c", "d"), api.ErrNone)
	well(t, f.Rename("b", "d"), f.Write("b", "B"))
	counts(t, "deeds behind the crash", f, 9, 2, false)
	has(t, "deeds behind the crash", f, map[string]string{"d": "A", "b": "B"})
	f.Crash(0)
	has(t, "the second crash", f, map[string]string{"b": "A"})
}

// P4.2: a cut, of one file.
func TestCuts(t *testing.T) {
	for _, c := range []struct {
		cuts []int
		want string
	}{
		{nil, "old"},
		{[]int{-1}, "old"},
		{[]int{math.MinInt}, "old"},
		{[]int{-1, 2}, "old"},
		{[]int{0}, ""},
		{[]int{1}, "n"},
		{[]int{3}, "new"},
		{[]int{4}, "newe"},
		{[]int{5}, "newer"},
		{[]int{6}, "newer"},
		{[]int{math.MaxInt}, "newer"},
		{[]int{2, 4, -1}, "ne"},
	} {
		f := simfs.New()
		well(t, f.Write("a", "old"), f.Sync("a"), f.SyncDir(), f.Write("a", "newest"), f.Write("a", "newer"))
		given := slices.Clone(c.cuts)
		crashed(t, "a file", f, 0, given, map[string]string{"a": c.want})
		if !slices.Equal(given, c.cuts) {
			t.Errorf("the cuts %d were changed to %d", c.cuts, given)
		}
	}
}

// P4.2: of a new file that was never made safe the safe content is empty.
func TestCutsOfNewFiles(t *testing.T) {
	for _, c := range []struct {
		cuts []int
		want string
	}{{nil, ""}, {[]int{-1}, ""}, {[]int{0}, ""}, {[]int{2}, "ab"}, {[]int{9}, "abc"}} {
		f := simfs.New()
		well(t, f.Write("a", "abc"))
		crashed(t, "a new file, kept", f, 1, c.cuts, map[string]string{"a": c.want})
		f = simfs.New()
		well(t, f.Write("a", "abc"))
		crashed(t, "a new file, not kept", f, 0, c.cuts, nil)
		f = simfs.New()
		well(t, f.Write("a", "abc"), f.SyncDir())
		crashed(t, "a new file, safe but for its content", f, 0, c.cuts, map[string]string{"a": c.want})
	}
}

// cutsCase says which files take which cuts.
type cutsCase struct {
	what string
	do   func(f *simfs.FS) []api.Errno
	keep int
	cuts []int
	want map[string]string
}

// P4.2: files take cuts in the order in which they came to be, whatever their names.
func TestOrderOfCuts(t *testing.T) {
	for _, c := range []cutsCase{
		{"names that fall", func(f *simfs.FS) []api.Errno {
			return []api.Errno{f.Write("c", "ccc"), f.Write("b", "bbb"), f.Write("a", "aaa")}
		}, 3, []int{1, 2, 3}, map[string]string{"c": "c", "b": "bb", "a": "aaa"}},
		{"too few cuts", func(f *simfs.FS) []api.Errno {
			return []api.Errno{f.Write("c", "ccc"), f.Write("b", "bbb"), f.Write("a", "aaa"), f.SyncDir()}
		}, 0, []int{1, 2}, map[string]string{"c": "c", "b": "bb", "a": ""}},
		{"a cut below 0 among others", func(f *simfs.FS) []api.Errno {
			return []api.Errno{f.Write("c", "ccc"), f.Write("b", "bbb"), f.Write("a", "aaa"), f.SyncDir()}
		}, 0, []int{-7, 2, 1}, map[string]string{"c": "", "b": "bb", "a": "a"}},
		{"one name, of a file in the safe directory, and of one that comes last", func(f *simfs.FS) []api.Errno {
			return []api.Errno{f.Write("a", "aaa"), f.SyncDir(), f.Write("b", "bbb"), f.Remove("a"), f.Write("a", "AAA")}
		}, 1, []int{1, 2, 3}, map[string]string{"a": "a", "b": "bb"}},
		{"renamed files keep their place", func(f *simfs.FS) []api.Errno {
			return []api.Errno{f.Write("a", "aaa"), f.Write("b", "bbb"), f.Rename("a", "c"), f.Rename("b", "a")}
		}, 4, []int{1, 2}, map[string]string{"c": "a", "a": "bb"}},
		{"files written again keep their place", func(f *simfs.FS) []api.Errno {
			return []api.Errno{f.Write("a", "-"), f.Write("b", "bbb"), f.SyncDir(), f.Write("a", "aaa")}
		}, 0, []int{1, 2}, map[string]string{"a": "a", "b": "bb"}},
		{"a name that was gone has a new file", func(f *simfs.FS) []api.Errno {
			return []api.Errno{f.Write("a", "-"), f.Write("b", "bbb"), f.Remove("a"), f.SyncDir(), f.Write("a", "aaa")}
		}, 1, []int{1, 2}, map[string]string{"b": "b", "a": "aa"}},
	} {
		f := simfs.New()
		well(t, c.do(f)...)
		crashed(t, c.what, f, c.keep, c.cuts, c.want)
	}
}

// P4.2: which files take a cut, and which don't.
func TestWhoTakesCuts(t *testing.T) {
	for _, c := range []cutsCase{
		{"files whose contents are alike", func(f *simfs.FS) []api.Errno {
			return []api.Errno{f.Write("a", "aaa"), f.Sync("a"), f.Write("b", ""), f.Write("c", "ccc")}
		}, 3, []int{1, 2, 3}, map[string]string{"a": "aaa", "b": "", "c": "c"}},
		{"a file written back to what is safe", func(f *simfs.FS) []api.Errno {
			return []api.Errno{f.Write("a", "aaa"), f.Sync("a"), f.Write("a", "x"), f.Write("a", "aaa"), f.Write("b", "bbb")}
		}, 2, []int{1, 2}, map[string]string{"a": "aaa", "b": "b"}},
		{"a file of the same length", func(f *simfs.FS) []api.Errno {
			return []api.Errno{f.Write("a", "aaa"), f.Sync("a"), f.Write("a", "aab"), f.Write("b", "bbb")}
		}, 2, []int{1, 2}, map[string]string{"a": "a", "b": "bb"}},
		{"one that is gone now, and is kept", func(f *simfs.FS) []api.Errno {
			return []api.Errno{f.Write("a", "aaa"), f.SyncDir(), f.Remove("a"), f.Write("b", "bbb")}
		}, 0, []int{1, 2}, map[string]string{"a": "a"}},
		{"one that is gone now, and isn't kept", func(f *simfs.FS) []api.Errno {
			return []api.Errno{f.Write("a", "aaa"), f.SyncDir(), f.Remove("a"), f.Write("b", "bbb")}
		}, 2, []int{1, 2}, map[string]string{"b": "bb"}},
		{"one that came and is gone, all waiting", func(f *simfs.FS) []api.Errno {
			return []api.Errno{f.Write("a", "aaa"), f.Remove("a"), f.Write("b", "bbb")}
		}, 3, []int{1, 2}, map[string]string{"b": "bb"}},
		{"one that came and is gone, its going not kept", func(f *simfs.FS) []api.Errno {
			return []api.Errno{f.Write("a", "aaa"), f.Remove("a"), f.Write("b", "bbb")}
		}, 1, []int{1, 2}, map[string]string{"a": "a"}},
		{"one that was renamed onto", func(f *simfs.FS) []api.Errno {
			return []api.Errno{f.Write("a", "aaa"), f.SyncDir(), f.Write("b", "bbb"), f.Rename("b", "a")}
		}, 2, []int{1, 2}, map[string]string{"a": "bb"}},
		{"one that was renamed onto, that not kept", func(f *simfs.FS) []api.Errno {
			return []api.Errno{f.Write("a", "aaa"), f.SyncDir(), f.Write("b", "bbb"), f.Rename("b", "a")}
		}, 1, []int{1, 2}, map[string]string{"a": "a", "b": "bb"}},
		{"one whose going is safe takes none", func(f *simfs.FS) []api.Errno {
			return []api.Errno{f.Write("a", "aaa"), f.SyncDir(), f.Remove("a"), f.Write("b", "bbb"), f.SyncDir()}
		}, 0, []int{1, 2}, map[string]string{"b": "b"}},
		{"one that was renamed onto, safely, takes none", func(f *simfs.FS) []api.Errno {
			return []api.Errno{f.Write("a", "aaa"), f.Write("b", "bbb"), f.Rename("b", "a"), f.SyncDir(), f.Write("c", "ccc")}
		}, 1, []int{1, 2}, map[string]string{"a": "b", "c": "cc"}},
		{"one under two names, now and safe, takes one", func(f *simfs.FS) []api.Errno {
			return []api.Errno{f.Write("a", "aaa"), f.SyncDir(), f.Rename("a", "c"), f.Write("b", "bbb")}
		}, 2, []int{1, 2}, map[string]string{"c": "a", "b": "bb"}},
		{"one that is renamed to itself takes one", func(f *simfs.FS) []api.Errno {
			return []api.Errno{f.Write("a", "aaa"), f.Rename("a", "a"), f.Rename("a", "a"), f.Write("b", "bbb")}
		}, 4, []int{1, 2}, map[string]string{"a": "a", "b": "bb"}},
	} {
		f := simfs.New()
		well(t, c.do(f)...)
		crashed(t, c.what, f, c.keep, c.cuts, c.want)
	}
}

// P4.2: files that a crash leaves keep their place in the order; those that it doesn't leave take no cut of the next.
func TestCutsOfTheNextCrash(t *testing.T) {
	f := simfs.New()
	well(t, f.Write("b", "bbb"), f.Write("c", "ccc"), f.Write("a", "aaa"))
	f.Crash(2, 9, 9, 9)
	well(t, f.Write("a", "AAA"), f.Write("c", "CCC"), f.Write("b", "BBB"))
	f.Crash(1, 1, 2, 3)
	has(t, "the next crash", f, map[string]string{"b": "B", "c": "CC", "a": "AAA"})
}

// P4.3: what was made safe is there behind each crash, whatever is done to other files, and wherever it goes down.
func TestSafeOutlastsCrashes(t *testing.T) {
	r := rand.New(rand.NewSource(1))
	for round := range 2000 {
		f := simfs.New()
		if round%2 == 0 {
			well(t, f.Write("safe", "content"), f.Sync("safe"), f.SyncDir())
		} else {
			well(t, f.Write("first", "content"), f.SyncDir(), f.Sync("first"), f.Rename("first", "safe"), f.SyncDir())
		}
		well(t, f.Write("gone", "x"), f.Sync("gone"), f.SyncDir(), f.Remove("gone"), f.SyncDir())
		for range 1 + r.Intn(3) {
			f.Arm(r.Intn(12) - 1)
			for range 10 {
				anyStep(r, f, "abc")
			}
			f.Crash(r.Intn(14)-2, randomCuts(r)...)
			if s, e := f.Read("safe"); s != "content" || e != api.OK {
				t.Fatalf("behind a crash the safe file is %q, and %v", s, e)
			}
			for _, name := range []string{"gone", "first"} {
				if _, e := f.Read(name); e != api.ErrNone {
					t.Fatalf("behind a crash %s, which was gone safely, answers %v", name, e)
				}
			}
		}
	}
}

// P4.3: a safe content is there as long as nothing was written behind it; a new one may come, but no mixture of both.
func TestSafeContentOrTheOneNow(t *testing.T) {
	for keep := range 5 {
		for cut := -1; cut < 6; cut++ {
			f := withOld(t)
			well(t, f.Write("tmp", "next"), f.Sync("tmp"), f.Rename("tmp", "old"))
			f.Crash(keep, cut)
			want := map[string]string{"old": "safe"}
			if keep == 1 {
				want["tmp"] = "next"
			} else if keep > 1 {
				want["old"] = "next"
			}
			has(t, "what is written aside, and renamed", f, want)
		}
	}
}

// anyStep does a step of any kind to names of one of these letters.
func anyStep(r *rand.Rand, f *simfs.FS, letters string) api.Errno {
	name := func() string { return string(letters[r.Intn(len(letters))]) }
	switch r.Intn(7) {
	case 0, 1:
		return f.Write(name(), randomData(r))
	case 2:
		return f.Sync(name())
	case 3, 4:
		return f.Rename(name(), name())
	case 5:
		return f.Remove(name())
	}
	return f.SyncDir()
}

func randomData(r *rand.Rand) string {
	return "abcdefgh"[r.Intn(3):][:r.Intn(5)]
}

func randomCuts(r *rand.Rand) []int {
	cuts := make([]int, r.Intn(6))
	for i := range cuts {
		cuts[i] = r.Intn(8) - 2
	}
	return cuts
}

// model goes by the chapter's words, with a whole directory for each deed that waits, and keeps all files for ever.
type model struct {
	now, safe []string         // contents, file by file, in the order in which they came to be
	dirs      []map[string]int // the safe directory, and what each waiting deed made of it
	coming    map[int]bool     // the files of whose coming a deed waits
	steps     int
	armed     bool
	left      int
	down      bool
}

func newModel() *model {
	return &model{dirs: []map[string]int{{}}, coming: map[int]bool{}}
}

// here is the directory now.
func (m *model) here() map[string]int { return m.dirs[len(m.dirs)-1] }

// deed is a new directory, to be changed, that waits.
func (m *model) deed() map[string]int {
	m.dirs = append(m.dirs, maps.Clone(m.here()))
	return m.here()
}

// step is false, if the system is down, or comes to be so.
func (m *model) step() bool {
	if m.armed && m.left == 0 {
		m.down = true
	}
	if m.down {
		return false
	}
	m.left--
	m.steps++
	return true
}

func (m *model) write(name, data string) api.Errno {
	if !m.step() {
		return api.ErrDown
	}
	if _, ok := m.here()[name]; !ok {
		m.deed()[name] = len(m.now)
		m.coming[len(m.now)] = true
		m.now, m.safe = append(m.now, ""), append(m.safe, "")
	}
	m.now[m.here()[name]] = data
	return api.OK
}

// of does something to the file that is under a name.
func (m *model) of(name string, do func(file int)) api.Errno {
	if !m.step() {
		return api.ErrDown
	}
	file, ok := m.here()[name]
	if !ok {
		return api.ErrNone
	}
	do(file)
	return api.OK
}

func (m *model) sync(name string) api.Errno {
	return m.of(name, func(file int) { m.safe[file] = m.now[file] })
}

func (m *model) rename(from, to string) api.Errno {
	return m.of(from, func(file int) {
		dir := m.deed()
		if from != to {
			dir[to] = file
			delete(dir, from)
		}
	})
}

func (m *model) remove(name string) api.Errno {
	return m.of(name, func(int) { delete(m.deed(), name) })
}

func (m *model) syncDir() api.Errno {
	if !m.step() {
		return api.ErrDown
	}
	m.dirs, m.coming = m.dirs[len(m.dirs)-1:], map[int]bool{}
	return api.OK
}

func (m *model) crash(keep int, cuts []int) {
	counted := maps.Clone(m.coming)
	for _, dir := range []map[string]int{m.here(), m.dirs[0]} {
		for _, file := range dir {
			counted[file] = true
		}
	}
	for file := range m.now {
		if !counted[file] || m.now[file] == m.safe[file] {
			continue
		}
		left := m.safe[file]
		if len(cuts) > 0 {
			if cuts[0] >= 0 {
				left = m.now[file][:min(cuts[0], len(m.now[file]))]
			}
			cuts = cuts[1:]
		}
		m.now[file], m.safe[file] = left, left
	}
	keep = min(max(keep, 0), len(m.dirs)-1)
	m.dirs, m.coming = m.dirs[keep:keep+1], map[int]bool{}
	m.armed, m.down = false, false
}

// same holds a system against its model.
func (m *model) same(t *testing.T, f *simfs.FS) {
	t.Helper()
	if f.Down() != m.down || f.Steps() != m.steps || f.Waiting() != len(m.dirs)-1 {
		t.Fatalf("Down %t, Steps %d, Waiting %d, not %t, %d, %d", f.Down(), f.Steps(), f.Waiting(), m.down, m.steps, len(m.dirs)-1)
	}
	if m.down {
		return
	}
	want := map[string]string{}
	for name, file := range m.here() {
		want[name] = m.now[file]
	}
	if got := files(t, f); !maps.Equal(got, want) {
		t.Fatalf("the files are %q, not %q", got, want)
	}
}

// both does one thing of any kind to a system and to its model, and is false if they answer unlike.
func (m *model) both(r *rand.Rand, f *simfs.FS) bool {
	name, other, data := string("abcd"[r.Intn(4)]), string("abcd"[r.Intn(4)]), randomData(r)
	switch r.Intn(20) {
	case 0, 1, 2, 3, 4, 5:
		return f.Write(name, data) == m.write(name, data)
	case 6, 7, 8:
		return f.Sync(name) == m.sync(name)
	case 9, 10, 11, 12:
		return f.Rename(name, other) == m.rename(name, other)
	case 13, 14, 15:
		return f.Remove(name) == m.remove(name)
	case 16:
		return f.SyncDir() == m.syncDir()
	case 17:
		n := r.Intn(20) - 2
		f.Arm(n)
		m.armed, m.left = n >= 0, n
	default:
		keep, cuts := r.Intn(16)-2, randomCuts(r)
		f.Crash(keep, cuts...)
		m.crash(keep, cuts)
	}
	return true
}

// P4.1, P4.2, P4.3
func TestAsTheChapterSays(t *testing.T) {
	for seed := range int64(300) {
		r := rand.New(rand.NewSource(seed))
		f, m := simfs.New(), newModel()
		for i := range 500 {
			if !m.both(r, f) {
				t.Fatalf("of seed %d, call %d answers another error", seed, i)
			}
			m.same(t, f)
		}
	}
}

// R1: whatever is handed in, no call panics.
func TestAnythingEnds(t *testing.T) {
	numbers := []int{math.MinInt, math.MinInt + 1, -1, 0, 1, math.MaxInt - 1, math.MaxInt}
	names := []string{"", "a", "b", "\xff", "A", "a/b"}
	r := rand.New(rand.NewSource(2))
	number := func() int { return numbers[r.Intn(len(numbers))] }
	name := func() string { return names[r.Intn(len(names))] }
	f := simfs.New()
	for range 20000 {
		switch r.Intn(8) {
		case 0:
			f.Arm(number())
		case 1:
			f.Crash(number(), number(), number())
		case 2:
			f.Write(name(), name())
		case 3:
			f.Sync(name())
		case 4:
			f.Rename(name(), name())
		case 5:
			f.Remove(name())
		case 6:
			f.SyncDir()
		default:
			f.Read(name())
			f.List()
		}
	}
}
