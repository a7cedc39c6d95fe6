package store_test

import (
	"fmt"
	"testing"

	"bosun/api"
	"bosun/ckpt"
	"bosun/simfs"
	"bosun/store"
)

// keptIn is what Load is to answer of such files: a state, none, or an error.
func keptIn(files map[string]string) answer {
	data, there := files[kept]
	if !there {
		return none()
	}
	x, version, e := ckpt.Load(data)
	return answer{x, version, e}
}

// stepsOfRecover is how many steps there are in recovering such files.
func stepsOfRecover(files map[string]string) int {
	if _, there := files[saving]; there {
		return 2
	}
	return 0
}

// P22.1: what is there behind Recover: state.tmp is gone, and stays gone; all other files are left as they are.
func TestRecover(t *testing.T) {
	for i, start := range starts(t) {
		what := fmt.Sprint("start ", i)
		f := system(t, start)
		s, steps := store.New(f), f.Steps()+stepsOfRecover(start)
		want := keptIn(start)
		gives(t, what, recovered(s), want)
		has(t, what, f, without(start, saving))
		counts(t, what, f, steps, 0, false)
		gives(t, what+", recovered once more", recovered(s), want)
		gives(t, what+", loaded", load(s), want)
		counts(t, what+", recovered once more", f, steps, 0, false)
		f.Crash(0)
		has(t, what+", behind a crash", f, without(start, saving))
		gives(t, what+", behind a crash", recovered(s), want)
		counts(t, what+", behind a crash", f, steps, 0, false)
	}
}

// P22.1: whatever state.tmp is: it goes, and is never looked into.
func TestRecoverOfEachTmp(t *testing.T) {
	x := plain(4, 2)
	tmps := []string{"", "x", checkpoint(t, plain(5, 1)), checkpoint(t, x)}
	for _, c := range append(damaged(t), elders()...) {
		tmps = append(tmps, c.b)
	}
	for _, tmp := range tmps {
		for _, safe := range []bool{false, true} {
			f := simfs.New()
			s := store.New(f)
			well(t, f.Write(saving, tmp))
			if safe {
				well(t, f.Sync(saving), f.SyncDir())
			}
			gives(t, "without state", recovered(s), none())
			has(t, "without state", f, nil)
			well(t, s.Save(x), f.Write(saving, tmp))
			if safe {
				well(t, f.Sync(saving), f.SyncDir())
			}
			gives(t, "with state", recovered(s), this(x))
			has(t, "with state", f, map[string]string{kept: checkpoint(t, x)})
			f.Crash(0)
			has(t, "behind a crash", f, map[string]string{kept: checkpoint(t, x)})
		}
	}
}

// P22.1: without state.tmp nothing is made safe; with it the directory is, but no content.
func TestRecoverAndOtherFiles(t *testing.T) {
	f := system(t, map[string]string{"a": "one", "b": "two"})
	s := store.New(f)
	well(t, f.Write("a", "three"), f.Rename("b", "c"), f.Write("d", "four"))
	gives(t, "without state.tmp", recovered(s), none())
	counts(t, "without state.tmp", f, 8, 2, false)
	has(t, "without state.tmp", f, map[string]string{"a": "three", "c": "two", "d": "four"})
	f.Crash(0)
	has(t, "without state.tmp, behind a crash", f, map[string]string{"a": "one", "b": "two"})
	well(t, f.Write("a", "three"), f.Rename("b", "c"), f.Write("d", "four"), f.Write(saving, "x"))
	gives(t, "with state.tmp", recovered(s), none())
	counts(t, "with state.tmp", f, 14, 0, false)
	f.Crash(0, -1, 2)
	has(t, "with state.tmp, behind a crash", f, map[string]string{"a": "one", "c": "two", "d": "fo"})
}

// P22.1: a system that is down: List's error.
func TestRecoverWhileDown(t *testing.T) {
	for i, start := range append(starts(t), map[string]string{kept: "", saving: "x"}) {
		what := fmt.Sprint("start ", i)
		f := downed(t, start)
		s, steps := store.New(f), f.Steps()
		for range 3 {
			gives(t, what, recovered(s), wrong(api.ErrDown))
			counts(t, what, f, steps, 0, true)
		}
		f.Crash(all, all)
		has(t, what, f, start)
		gives(t, what, recovered(s), keptIn(start))
	}
}

// P22.1: where a step of Recover goes wrong: its error alone; the steps ahead of it are done, and none behind it.
func TestStepsOfRecover(t *testing.T) {
	for i, start := range starts(t) {
		need := stepsOfRecover(start)
		for steps := range 4 {
			for keep := -1; keep <= 2; keep++ {
				what := fmt.Sprintf("start %d, %d steps, %d kept", i, steps, keep)
				f := system(t, start)
				s, ahead := store.New(f), f.Steps()
				f.Arm(steps)
				if steps >= need {
					gives(t, what, recovered(s), keptIn(start))
					counts(t, what, f, ahead+need, 0, false)
					f.Crash(keep, all)
					has(t, what, f, without(start, saving))
					continue
				}
				gives(t, what, recovered(s), wrong(api.ErrDown))
				counts(t, what, f, ahead+steps, steps, true)
				gives(t, what+", while it is down", recovered(s), wrong(api.ErrDown))
				gives(t, what+", while it is down", load(s), wrong(api.ErrDown))
				f.Crash(keep, all)
				if steps == 1 && keep >= 1 {
					has(t, what, f, without(start, saving))
				} else {
					has(t, what, f, start)
				}
				gives(t, what+", behind the crash", recovered(s), keptIn(start))
				has(t, what+", behind the crash", f, without(start, saving))
			}
		}
	}
}

// P22.1: without state.tmp there is no step at which a system that was armed would go down.
func TestRecoverWithoutSteps(t *testing.T) {
	f := system(t, map[string]string{kept: checkpoint(t, plain(6, 2)), "state.tm": "x"})
	s := store.New(f)
	f.Arm(0)
	for range 3 {
		gives(t, "no step is left", recovered(s), this(plain(6, 2)))
	}
	counts(t, "no step is left", f, 5, 0, false)
}
