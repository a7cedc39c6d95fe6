package store_test

import (
	"fmt"
	"math/rand"
	"slices"
	"testing"

	"bosun/api"
	"bosun/ckpt"
	"bosun/ckthree"
	"bosun/simfs"
	"bosun/store"
)

// twin is what the chapter's words say, done to a system of its own.
type twin struct{ f *simfs.FS }

func (m twin) save(x ckthree.State) api.Errno {
	b, e := ckpt.Three(x)
	if e == api.OK {
		e = m.f.Write("state.tmp", b)
	}
	if e == api.OK {
		e = m.f.Sync("state.tmp")
	}
	if e == api.OK {
		e = m.f.Rename("state.tmp", "state")
	}
	if e == api.OK {
		e = m.f.SyncDir()
	}
	return e
}

func (m twin) load() answer {
	data, e := m.f.Read("state")
	if e == api.ErrNone {
		return answer{}
	}
	if e != api.OK {
		return answer{e: e}
	}
	x, version, e := ckpt.Load(data)
	return answer{x, version, e}
}

func (m twin) recover() answer {
	l, e := m.f.List()
	if e == api.OK && slices.Contains(l, "state.tmp") {
		e = m.f.Remove("state.tmp")
		if e == api.OK {
			e = m.f.SyncDir()
		}
	}
	if e != api.OK {
		return answer{e: e}
	}
	return m.load()
}

// life is a store, its system, and what the model says of both; wild, if others write a store's files, too.
type life struct {
	*rand.Rand
	t    *testing.T
	n    int
	wild bool
	f    *simfs.FS
	s    *store.Store
	m    twin
	seq  uint64
	may  []answer // what may be recovered: what was saved as a whole last, and what was begun since
	seen map[string]int
}

// one is one of some texts.
func (l *life) one(names ...string) string { return names[l.Intn(len(names))] }

// both does the same to both systems, and holds what they answer against each other.
func (l *life) both(what string, do func(f *simfs.FS) api.Errno) {
	l.t.Helper()
	answers(l.t, fmt.Sprint("life ", l.n, ": ", what), do(l.f), do(l.m.f))
}

// alike holds both systems against each other.
func (l *life) alike(what string) {
	l.t.Helper()
	what = fmt.Sprint("life ", l.n, ": ", what)
	counts(l.t, what, l.f, l.m.f.Steps(), l.m.f.Waiting(), l.m.f.Down())
	if !l.f.Down() {
		has(l.t, what, l.f, filesOf(l.t, l.m.f))
	}
}

// save saves a state, which may be one that may not be.
func (l *life) save() {
	l.t.Helper()
	l.seq++
	x := plain(l.seq, l.Intn(3))
	if l.Intn(8) == 0 {
		x.Pods = append(x.Pods, ckthree.Pod{File: l.one("", "A", "pods/000000.json", "z")})
	}
	e := l.s.Save(x)
	answers(l.t, fmt.Sprint("life ", l.n, ": Save"), e, l.m.save(x))
	l.seen["Save "+e.Word()]++
	switch e {
	case api.OK:
		l.may = []answer{this(x)}
	case api.ErrDown:
		l.may = append(l.may, this(x))
	}
}

// look loads or recovers, and holds that this is one of those that may be, as long as nobody else wrote them.
func (l *life) look(what string, a, want answer) {
	l.t.Helper()
	gives(l.t, fmt.Sprint("life ", l.n, ": ", what), a, want)
	l.seen[fmt.Sprint(what, " ", a.e.Word(), " ", a.version)]++
	if l.wild || a.e == api.ErrDown {
		return
	}
	if !slices.ContainsFunc(l.may, a.like) {
		l.t.Fatalf("life %d: %s answers Seq %d, version %d and %v, which may not be", l.n, what, a.x.Seq, a.version, a.e)
	}
	l.may = []answer{a}
}

// crash crashes both systems in one way.
func (l *life) crash() {
	keep, cuts := l.Intn(6)-1, make([]int, l.Intn(4))
	for i := range cuts {
		cuts[i] = l.Intn(200) - 20
	}
	l.f.Crash(keep, cuts...)
	l.m.f.Crash(keep, cuts...)
}

// others do something to other files, or, in a wild life, to those of the store, too.
func (l *life) others() {
	names := []string{"a", "b", "pods/c.json", "state.t", "none/x"}
	data := l.one("", "x", "some more")
	if l.wild {
		names = append(names, kept, saving, kept, saving)
		data = l.one(data, elders()[0].b, elders()[1].b, checkpoint(l.t, plain(l.seq, 1)), framed(3, data), framed(9, data))
	}
	a, b := l.one(names...), l.one(names...)
	switch l.Intn(8) {
	case 0:
		l.both("Sync", func(f *simfs.FS) api.Errno { return f.Sync(a) })
	case 1:
		l.both("Rename", func(f *simfs.FS) api.Errno { return f.Rename(a, b) })
	case 2:
		l.both("Remove", func(f *simfs.FS) api.Errno { return f.Remove(a) })
	case 3:
		l.both("SyncDir", func(f *simfs.FS) api.Errno { return f.SyncDir() })
	default:
		l.both("Write", func(f *simfs.FS) api.Errno { return f.Write(a, data) })
	}
}

// step is one thing of a life.
func (l *life) step() string {
	l.t.Helper()
	switch l.Intn(14) {
	case 0, 1, 2, 3:
		l.save()
		return "Save"
	case 4:
		l.look("Load", load(l.s), l.m.load())
		return "Load"
	case 5, 6:
		l.look("Recover", recovered(l.s), l.m.recover())
		return "Recover"
	case 7, 8:
		l.crash()
		return "Crash"
	case 9, 10:
		n := l.Intn(9) - 1
		l.f.Arm(n)
		l.m.f.Arm(n)
		return "Arm"
	case 11:
		l.s = store.New(l.f)
		return "New"
	}
	l.others()
	return "others"
}

// P22.1, P22.2, R1, R5: random lives, held against the chapter's words.
func TestLivesAgainstModel(t *testing.T) {
	seen := map[string]int{}
	for n := range 6000 {
		f := simfs.New()
		l := &life{rand.New(rand.NewSource(int64(n))), t, n, n%3 == 0, f, store.New(f), twin{simfs.New()}, 0, []answer{none()}, seen}
		for range 60 {
			l.alike(l.step())
		}
		l.crash()
		l.alike("the last crash")
		a := recovered(l.s)
		l.look("Recover", a, l.m.recover())
		gives(t, "recovered once more", recovered(l.s), a)
	}
	for _, what := range []string{
		"Save ok", "Save down", "Save name", "Save form", "Load ok 0", "Load ok 1", "Load ok 2", "Load ok 3", "Load down 0", "Load magic 0",
		"Load short 0", "Load version 0", "Recover ok 0", "Recover ok 1", "Recover ok 2", "Recover ok 3", "Recover down 0", "Recover magic 0",
		"Recover short 0", "Recover version 0",
	} {
		if seen[what] < 30 {
			t.Errorf("%s was seen %d times", what, seen[what])
		}
	}
}
