package store_test

import (
	"fmt"
	"maps"
	"testing"

	"bosun/api"
	"bosun/ckpt"
	"bosun/ckthree"
	"bosun/simfs"
	"bosun/spec"
	"bosun/store"
)

// The files that a store has: the one that is kept, and the one that is there while it saves.
const (
	kept   = "state"
	saving = "state.tmp"
)

// all is as many deeds, or bytes, as there are.
const all = 1 << 30

// plain is a state of so many pods.
func plain(seq uint64, pods int) ckthree.State {
	s := ckthree.State{Seq: seq}
	for i := range pods {
		c := spec.Container{Name: "c", Image: "docker.io/nginx:1", Command: []string{"serve", "-v"}, Cpu: 258, Memory: 66051,
			Ports: []spec.Port{{Number: 80}, {Number: 5353, Proto: spec.UDP}}, Env: []spec.Env{{Name: "HOME", Value: "é"}}}
		p := spec.Pod{Name: "web", Namespace: "default", Restart: spec.Restart(i % 3), Grace: 30, Host: i%2 == 0,
			Containers: []spec.Container{{Name: "0-0", Image: "i", Cpu: 1, Memory: 1}, c}}
		s.Pods = append(s.Pods, ckthree.Pod{File: fmt.Sprintf("pods/%06d.json", i), Pod: p})
	}
	return s
}

// checkpoint is a state's.
func checkpoint(t *testing.T, x ckthree.State) string {
	t.Helper()
	b, e := ckpt.Three(x)
	if e != api.OK {
		t.Fatalf("the state has no checkpoint: %v", e)
	}
	return b
}

// short is as much of a text as is worth showing.
func short(s string) string { return s[:min(len(s), 200)] }

// well holds that all goes well.
func well(t *testing.T, l ...api.Errno) {
	t.Helper()
	for i, e := range l {
		if e != api.OK {
			t.Fatalf("call %d of %d answers %v", i, len(l), e)
		}
	}
}

// system is a file system of such files, safe in all.
func system(t *testing.T, files map[string]string) *simfs.FS {
	t.Helper()
	f := simfs.New()
	for name, data := range files {
		well(t, f.Write(name, data), f.Sync(name))
	}
	well(t, f.SyncDir())
	return f
}

// downed is a file system of such files that is down.
func downed(t *testing.T, files map[string]string) *simfs.FS {
	t.Helper()
	f := system(t, files)
	f.Arm(0)
	if e := f.SyncDir(); e != api.ErrDown {
		t.Fatalf("the step that makes it down answers %v", e)
	}
	return f
}

// filesOf are all files of a system.
func filesOf(t *testing.T, f *simfs.FS) map[string]string {
	t.Helper()
	names, e := f.List()
	well(t, e)
	m := map[string]string{}
	for _, name := range names {
		data, e := f.Read(name)
		well(t, e)
		m[name] = data
	}
	return m
}

// has holds the files of a system against what they should be.
func has(t *testing.T, what string, f *simfs.FS, want map[string]string) {
	t.Helper()
	if m := filesOf(t, f); !maps.Equal(m, want) {
		t.Fatalf("%s: the files are %.300q, not %.300q", what, m, want)
	}
}

// with are files, and one more; without are files, but for one.
func with(files map[string]string, name, data string) map[string]string {
	m := maps.Clone(files)
	m[name] = data
	return m
}

func without(files map[string]string, name string) map[string]string {
	m := maps.Clone(files)
	delete(m, name)
	return m
}

// counts holds the numbers of a system against what they should be.
func counts(t *testing.T, what string, f *simfs.FS, steps, waiting int, down bool) {
	t.Helper()
	if f.Steps() != steps || f.Waiting() != waiting || f.Down() != down {
		t.Fatalf("%s: Steps %d, Waiting %d, Down %t, not %d, %d, %t", what, f.Steps(), f.Waiting(), f.Down(), steps, waiting, down)
	}
}

// answers holds an error against what it should be.
func answers(t *testing.T, what string, e, want api.Errno) {
	t.Helper()
	if e != want {
		t.Fatalf("%s: answered is %v, not %v", what, e, want)
	}
}

// answer is what Load and Recover answer.
type answer struct {
	x       ckthree.State
	version int
	e       api.Errno
}

func load(s *store.Store) answer {
	x, version, e := s.Load()
	return answer{x, version, e}
}

func recovered(s *store.Store) answer {
	x, version, e := s.Recover()
	return answer{x, version, e}
}

// none is what is answered where no state is kept, this where one was saved, wrong beside an error.
func none() answer { return answer{} }

func this(x ckthree.State) answer { return answer{x: x, version: 3} }

func wrong(e api.Errno) answer { return answer{e: e} }

// like says whether two answers are alike.
func (a answer) like(b answer) bool { return a.x.Same(b.x) && a.version == b.version && a.e == b.e }

// gives holds an answer against what it should be.
func gives(t *testing.T, what string, a, want answer) {
	t.Helper()
	if !a.like(want) {
		t.Fatalf("%s: answered are Seq %d, %d pods, version %d and %v, not %d, %d, %d and %v",
			what, a.x.Seq, len(a.x.Pods), a.version, a.e, want.x.Seq, len(want.x.Pods), want.version, want.e)
	}
}

// P22.1: the chapter's example.
func TestExample(t *testing.T) {
	gives(t, "Load, of a new system", load(store.New(simfs.New())), none())
	gives(t, "Recover, of a new system", recovered(store.New(simfs.New())), none())
}

// P22.1: the store of a system does nothing to it, whatever there is.
func TestNew(t *testing.T) {
	start := map[string]string{kept: "one", saving: "two", "other": "three"}
	f := system(t, start)
	well(t, f.Write("new", "x"))
	for range 3 {
		store.New(f)
		counts(t, "New", f, 8, 1, false)
		has(t, "New", f, with(start, "new", "x"))
	}
	f = downed(t, start)
	s := store.New(f)
	counts(t, "New, of a system that is down", f, 7, 0, true)
	f.Crash(0)
	has(t, "behind the crash", f, start)
	well(t, s.Save(plain(1, 1)))
	gives(t, "behind the crash", load(s), this(plain(1, 1)))
}

// P22.1: a state and what is kept of it, byte by byte.
func TestKnownBytes(t *testing.T) {
	f := simfs.New()
	s := store.New(f)
	well(t, s.Save(ckthree.State{Seq: 1}))
	has(t, "a state without pods", f, map[string]string{kept: "PODC\x03\x00\x00\x00\x0a" + "\x00\x00\x00\x00\x00\x00\x00\x01\x00\x00" + "\x25\xc3\x5b\x2d"})
	port, env := spec.Port{Number: 772, Proto: spec.UDP}, spec.Env{Name: "A", Value: "é"}
	one := ckthree.State{Seq: 258, Pods: []ckthree.Pod{{File: "f", Pod: spec.Pod{Name: "n", Namespace: "s", Restart: 1, Grace: 259, Host: true, Containers: []spec.Container{
		{Name: "c", Image: "i", Command: []string{"x"}, Ports: []spec.Port{port}, Cpu: 260, Memory: 261, Env: []spec.Env{env}}}}}}}
	well(t, s.Save(one))
	has(t, "a state of a pod", f, map[string]string{kept: "PODC\x03\x00\x00\x00\x36" + "\x00\x00\x00\x00\x00\x00\x01\x02\x00\x01" + "\x00\x01f\x00\x01n\x00\x01s\x01\x01\x03\x01\x01" +
		"\x00\x01c\x00\x01i" + "\x01\x00\x01x" + "\x01\x03\x04\x01" + "\x00\x00\x01\x04\x00\x00\x01\x05" + "\x01\x00\x01A\x00\x02\xc3\xa9" + "\x2d\xad\x5e\x76"})
	gives(t, "a state of a pod", load(s), this(one))
}

// P22.1, R5: stores of one file system have one state.
func TestStoresOfOneSystem(t *testing.T) {
	f := simfs.New()
	a, b := store.New(f), store.New(f)
	for i := range 5 {
		one, two := plain(uint64(2*i), i%3), plain(uint64(2*i+1), (i+1)%3)
		well(t, a.Save(one))
		gives(t, "saved by the other one", load(b), this(one))
		gives(t, "saved by itself", recovered(a), this(one))
		well(t, b.Save(two))
		gives(t, "saved by the other one", recovered(a), this(two))
		gives(t, "saved by itself", load(b), this(two))
		gives(t, "of a store that is new", load(store.New(f)), this(two))
	}
	well(t, f.Remove(kept))
	gives(t, "removed", load(a), none())
	gives(t, "removed", recovered(b), none())
	f.Arm(0)
	answers(t, "Save", a.Save(plain(1, 0)), api.ErrDown)
	gives(t, "down by the other one", load(b), wrong(api.ErrDown))
	answers(t, "Save, down by the other one", b.Save(plain(1, 0)), api.ErrDown)
}

// P22.1, R5: stores of two file systems have nothing to do with each other.
func TestStoresOfTwoSystems(t *testing.T) {
	f, g := simfs.New(), simfs.New()
	a, b := store.New(f), store.New(g)
	well(t, a.Save(plain(1, 1)))
	gives(t, "the other one", load(b), none())
	counts(t, "the other one", g, 0, 0, false)
	well(t, b.Save(plain(2, 2)))
	gives(t, "the first one", load(a), this(plain(1, 1)))
	f.Arm(0)
	answers(t, "Save of the first one", a.Save(plain(3, 0)), api.ErrDown)
	well(t, b.Save(plain(4, 0)))
	gives(t, "the other one", recovered(b), this(plain(4, 0)))
	gives(t, "the first one", recovered(a), wrong(api.ErrDown))
	f.Crash(0)
	gives(t, "the first one, behind its crash", recovered(a), this(plain(1, 1)))
	gives(t, "the other one, behind it", load(b), this(plain(4, 0)))
}
