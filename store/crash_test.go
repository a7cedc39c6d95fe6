package store_test

import (
	"fmt"
	"slices"
	"testing"

	"bosun/api"
	"bosun/simfs"
	"bosun/store"
)

// blow is a crash: how many steps are done ahead of it, how many of the waiting deeds are kept, and where the first content
// that isn't safe is cut.
type blow struct{ steps, keep, cut int }

// hit has a Save go down, or not, and the system crash.
func hit(t *testing.T, f *simfs.FS, s *store.Store, seq uint64, pods int, c blow) {
	t.Helper()
	f.Arm(c.steps)
	want := api.ErrDown
	if c.steps >= 4 {
		want = api.OK
	}
	answers(t, fmt.Sprint("Save, and ", c), s.Save(plain(seq, pods)), want)
	f.Crash(c.keep, c.cut)
}

// holdRecovered holds that Recover answers one of those that it may, and the same once more, also behind a crash; and that
// nothing but that is there then.
func holdRecovered(t *testing.T, what string, f *simfs.FS, s *store.Store, may ...answer) answer {
	t.Helper()
	a := recovered(s)
	if !slices.ContainsFunc(may, a.like) {
		t.Fatalf("%s: recovered are Seq %d, %d pods, version %d and %v, not what may be", what, a.x.Seq, len(a.x.Pods), a.version, a.e)
	}
	want := map[string]string{}
	if a.version != 0 {
		want[kept] = checkpoint(t, a.x)
	}
	has(t, what, f, want)
	gives(t, what+", recovered once more", recovered(s), a)
	f.Crash(0)
	gives(t, what+", recovered once more behind a crash", recovered(s), a)
	gives(t, what+", loaded", load(s), a)
	has(t, what+", behind a crash", f, want)
	return a
}

// holdLater holds that all goes on behind a crash: a state is saved, and recovered.
func holdLater(t *testing.T, what string, f *simfs.FS, s *store.Store) {
	t.Helper()
	well(t, s.Save(plain(1000, 1)))
	holdRecovered(t, what+", saved behind it", f, s, this(plain(1000, 1)))
}

// P22.2: rows of saves, of which the last one goes down ahead of each step, or goes well: behind a crash that keeps each
// number of deeds, and cuts the content at each length, the state ahead of it is recovered, or that one.
func TestCrashesOfTheLast(t *testing.T) {
	seen := map[bool]int{}
	for row := range 4 {
		for pods := range 3 {
			ends := len(checkpoint(t, plain(100, pods))) + 1
			for steps := range 5 {
				for keep := -1; keep <= 3; keep++ {
					for cut := -1; cut <= ends; cut++ {
						if steps != 1 && cut > 1 && cut < ends-3 {
							continue // all contents are safe then
						}
						f := simfs.New()
						s, ahead := store.New(f), none()
						for i := range row {
							ahead = this(plain(uint64(i+1), (pods+i)%3))
							well(t, s.Save(ahead.x))
						}
						c := blow{steps, keep, cut}
						what := fmt.Sprintf("%d saves, then %d pods, and %v", row, pods, c)
						hit(t, f, s, 100, pods, c)
						want := ahead
						if steps == 4 || steps == 3 && keep >= 2 {
							want = this(plain(100, pods))
						}
						a := holdRecovered(t, what, f, s, want)
						seen[a.x.Seq == 100]++
						holdLater(t, what, f, s)
					}
				}
			}
		}
	}
	if seen[true] < 100 || seen[false] < 100 {
		t.Errorf("the new state was recovered, or not: %v", seen)
	}
}

// P22.2: what is in state.tmp is never taken for the state, be it whole, if the crash didn't keep its other name.
func TestWholeTmpIsNoState(t *testing.T) {
	x := plain(3, 1)
	for _, c := range []blow{{1, 1, all}, {2, 1, all}, {3, 1, all}} {
		f := simfs.New()
		s := store.New(f)
		hit(t, f, s, 3, 1, c)
		has(t, fmt.Sprint(c), f, map[string]string{saving: checkpoint(t, x)})
		gives(t, fmt.Sprint(c, ", loaded"), load(s), none())
		holdRecovered(t, fmt.Sprint(c), f, s, none())
	}
}

// blows are crashes at each step of a Save, of a file of so many bytes.
func blows(bytes int) []blow {
	l := []blow{{0, 0, -1}, {4, 0, -1}}
	for keep := range 3 {
		for _, cut := range []int{-1, 3, all} {
			l = append(l, blow{1, min(keep, 1), cut})
		}
		l = append(l, blow{2, keep, 0}, blow{3, keep, bytes / 2})
	}
	return l
}

// P22.2: crashes one behind another, with and without Recover between them: what is recovered at last is what was there
// behind the crash ahead, or what was being saved.
func TestCrashesInRows(t *testing.T) {
	l := blows(len(checkpoint(t, plain(1, 1))))
	for i := range len(l) * len(l) * len(l) {
		row := []blow{l[i%len(l)], l[i/len(l)%len(l)], l[i/len(l)/len(l)]}
		for recovers := range 4 {
			holdRow(t, row, recovers)
		}
	}
}

// holdRow holds a row of crashes; recovers says, bit by bit, behind which of them it is recovered.
func holdRow(t *testing.T, row []blow, recovers int) {
	t.Helper()
	what := fmt.Sprintf("crashes %v, recovered %02b", row, recovers)
	f := simfs.New()
	s, files, may := store.New(f), map[string]string{}, []answer{none()}
	for i, c := range row {
		x := plain(uint64(i+1), i%2)
		files = atStep(files, checkpoint(t, x), c.steps, c.keep, c.cut)
		hit(t, f, s, x.Seq, i%2, c)
		has(t, what, f, files)
		may = append(may, this(x))
		if c.steps == 4 {
			may = may[len(may)-1:]
		}
		if recovers>>i&1 == 1 {
			may = []answer{holdRecovered(t, what, f, s, may...)}
			files = without(files, saving)
		}
	}
	want := keptIn(files)
	a := holdRecovered(t, what, f, s, may...)
	gives(t, what, a, want)
	holdLater(t, what, f, s)
}

// P22.2: crashes within Recover, each of which keeps what it may, one behind another.
func TestCrashesWithinRecover(t *testing.T) {
	ends := len(checkpoint(t, plain(2, 1)))
	for _, ahead := range []bool{false, true} {
		for _, c := range blows(ends) {
			for i := range 4 * 4 * 4 {
				f := simfs.New()
				s, may := store.New(f), none()
				if ahead {
					may = this(plain(1, 2))
					well(t, s.Save(may.x))
				}
				hit(t, f, s, 2, 1, c)
				may = load(s)
				for _, n := range []int{i % 4, i / 4 % 4, i / 16} {
					crashWithin(t, f, s, n%2, n/2, may)
				}
				what := fmt.Sprintf("with a state %t, crash %v, and crashes %d within Recover", ahead, c, i)
				holdRecovered(t, what, f, s, may)
				holdLater(t, what, f, s)
			}
		}
	}
}

// crashWithin has Recover go down behind so many steps, if it does so many, and the system crash.
func crashWithin(t *testing.T, f *simfs.FS, s *store.Store, steps, keep int, may answer) {
	t.Helper()
	want := may
	if stepsOfRecover(filesOf(t, f)) > steps {
		want = wrong(api.ErrDown)
	}
	f.Arm(steps)
	gives(t, fmt.Sprintf("Recover, down behind %d steps", steps), recovered(s), want)
	f.Crash(keep)
	gives(t, "loaded behind it", load(s), may)
}

// P22.2: a Save behind a Recover that went down, without another one: state.tmp may be there, or not.
func TestSaveBehindRecoverThatWentDown(t *testing.T) {
	l := blows(len(checkpoint(t, plain(2, 1))))
	for _, first := range l {
		for _, last := range l {
			for i := range 4 {
				f := simfs.New()
				s := store.New(f)
				well(t, s.Save(plain(1, 2)))
				hit(t, f, s, 2, 1, first)
				may := load(s)
				crashWithin(t, f, s, i%2, i/2, may)
				files := filesOf(t, f)
				hit(t, f, s, 3, 0, last)
				files = atStep(files, checkpoint(t, plain(3, 0)), last.steps, last.keep, last.cut)
				what := fmt.Sprintf("crashes %v and %v, Recover went down %d", first, last, i)
				has(t, what, f, files)
				a := holdRecovered(t, what, f, s, may, this(plain(3, 0)))
				gives(t, what, a, keptIn(files))
				holdLater(t, what, f, s)
			}
		}
	}
}

// P22.2: a crash of a system that isn't down, ahead of a Save and behind it, keeps what was saved.
func TestCrashesBetween(t *testing.T) {
	f := simfs.New()
	s := store.New(f)
	for i := range 20 {
		f.Crash(i%3, i)
		x := plain(uint64(i+1), i%3)
		well(t, s.Save(x))
		f.Crash(i%2, i)
		holdRecovered(t, "a crash between", f, s, this(x))
	}
}

// P22.2: several stores of one system: what one of them was saving, another one recovers.
func TestCrashesOfSeveralStores(t *testing.T) {
	l := blows(len(checkpoint(t, plain(2, 1))))
	for _, c := range l {
		f := simfs.New()
		a, b := store.New(f), store.New(f)
		well(t, a.Save(plain(1, 1)))
		hit(t, f, b, 2, 1, c)
		holdRecovered(t, fmt.Sprint(c), f, a, this(plain(1, 1)), this(plain(2, 1)))
		holdLater(t, fmt.Sprint(c), f, b)
	}
}
