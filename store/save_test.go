package store_test

import (
	"fmt"
	"math"
	"reflect"
	"slices"
	"strings"
	"testing"

	"bosun/api"
	"bosun/ckpt"
	"bosun/ckthree"
	"bosun/simfs"
	"bosun/spec"
	"bosun/store"
)

// starts are the files that may be there ahead, all safe: with and without those of a store, and others.
func starts(t *testing.T) []map[string]string {
	t.Helper()
	elder := checkpoint(t, plain(1, 1))
	return []map[string]string{
		{},
		{kept: elder},
		{saving: "left over"},
		{kept: elder, saving: "left over"},
		{kept: elder, saving: elder, "pods/a.json": "{}", "state.tm": "x", "state.tmp.tmp": "y", "a/state": "z"},
		{kept: "no checkpoint", saving: "", "stat": "x", "tmp": "y"},
	}
}

// P22.1: what is there behind a Save, and that all of it is safe.
func TestSave(t *testing.T) {
	for i, start := range starts(t) {
		for _, x := range []ckthree.State{{}, plain(0, 0), plain(7, 0), plain(8, 1), plain(1<<64-1, 2), plain(9, 5), plain(10, 100)} {
			what := fmt.Sprintf("start %d, a state of %d pods", i, len(x.Pods))
			f := system(t, start)
			s, steps := store.New(f), f.Steps()
			well(t, s.Save(x))
			want := with(without(start, saving), kept, checkpoint(t, x))
			has(t, what, f, want)
			counts(t, what, f, steps+4, 0, false)
			gives(t, what, load(s), this(x))
			f.Crash(0)
			has(t, what+", behind a crash", f, want)
			gives(t, what+", behind a crash", load(s), this(x))
			gives(t, what+", behind a crash", recovered(s), this(x))
		}
	}
}

// P22.1: states that are saved one behind another: only the last one is kept, as a whole.
func TestSavedAnew(t *testing.T) {
	f := simfs.New()
	s := store.New(f)
	for i, pods := range []int{3, 0, 5, 5, 1, 0, 0, 100, 2} {
		x := plain(uint64(i*7%5), pods) // the Seqs rise and fall, for a store asks nothing of them
		well(t, s.Save(x), s.Save(x), s.Save(x))
		has(t, "saved anew", f, map[string]string{kept: checkpoint(t, x)})
		counts(t, "saved anew", f, 12*(i+1), 0, false)
		gives(t, "saved anew", load(s), this(x))
		if i%2 == 0 {
			f.Crash(0)
			gives(t, "behind a crash", recovered(s), this(x))
		}
	}
}

// spoil is a way to spoil the second of three pods, and the error that comes of it.
type spoil struct {
	what string
	want api.Errno
	do   func(s *ckthree.State)
}

// spoils are such ways, for each error that a pod of a state may have.
func spoils() []spoil {
	pod := func(what string, want api.Errno, do func(p *spec.Pod)) spoil {
		return spoil{what, want, func(s *ckthree.State) { do(&s.Pods[1].Pod) }}
	}
	container := func(what string, want api.Errno, do func(c *spec.Container)) spoil {
		return pod("a container's "+what, want, func(p *spec.Pod) { do(&p.Containers[1]) })
	}
	return []spoil{
		{"too many pods", api.ErrFull, func(s *ckthree.State) { *s = plain(1, 1025) }},
		{"a zero pod", api.ErrName, func(s *ckthree.State) { s.Pods[0] = ckthree.Pod{} }},
		{"the File", api.ErrName, func(s *ckthree.State) { s.Pods[1].File += "A" }},
		{"the Files", api.ErrForm, func(s *ckthree.State) { slices.Reverse(s.Pods) }},
		pod("the Name", api.ErrName, func(p *spec.Pod) { p.Name = "-" }),
		pod("the Namespace", api.ErrName, func(p *spec.Pod) { p.Namespace = "" }),
		pod("the Restart", api.ErrRange, func(p *spec.Pod) { p.Restart = 3 }),
		pod("the Grace", api.ErrRange, func(p *spec.Pod) { p.Grace = 3601 }),
		pod("no containers", api.ErrNone, func(p *spec.Pod) { p.Containers = nil }),
		pod("too many containers", api.ErrFull, func(p *spec.Pod) { p.Containers = make([]spec.Container, 17) }),
		pod("containers of one Name", api.ErrTwice, func(p *spec.Pod) { p.Containers[1].Name = p.Containers[0].Name }),
		container("Name", api.ErrName, func(c *spec.Container) { c.Name = "a.b" }),
		container("Image", api.ErrForm, func(c *spec.Container) { c.Image = "Nginx" }),
		container("Command, too long,", api.ErrFull, func(c *spec.Container) { c.Command = make([]string, 17) }),
		container("text that is too long", api.ErrLong, func(c *spec.Container) { c.Command = []string{strings.Repeat("x", 4097)} }),
		container("text that is none", api.ErrText, func(c *spec.Container) { c.Command = []string{"\xff"} }),
		container("Port", api.ErrRange, func(c *spec.Container) { c.Ports = []spec.Port{{}} }),
		container("Cpu", api.ErrRange, func(c *spec.Container) { c.Cpu = 0 }),
		container("Value", api.ErrText, func(c *spec.Container) { c.Env = []spec.Env{{Name: "A", Value: "\xff"}} }),
		{"too many bytes", api.ErrLong, func(s *ckthree.State) { *s = big(mostPayload + 1) }},
	}
}

// mostPayload is how many bytes of a state have room in a checkpoint.
const mostPayload = 1 << 22

// big is a state that may be, of so many bytes.
func big(bytes int) ckthree.State {
	s := plain(5, 70)
	for i := range s.Pods {
		s.Pods[i].Pod.Containers[1].Command = make([]string, 16)
	}
	b, _ := ckthree.Encode(s)
	spare := bytes - len(b)
	for i := range s.Pods {
		for k := range s.Pods[i].Pod.Containers[1].Command {
			more := min(spare, 4096)
			s.Pods[i].Pod.Containers[1].Command[k] = strings.Repeat("x", more)
			spare -= more
		}
	}
	return s
}

// P22.1: a state of which there is no checkpoint: Three's error, ahead of any step.
func TestSaveOfWhatMayNotBe(t *testing.T) {
	for _, c := range spoils() {
		x := plain(2, 3)
		c.do(&x)
		if _, e := ckpt.Three(x); e != c.want {
			t.Fatalf("%s: Three answers %v, not %v", c.what, e, c.want)
		}
		for i, start := range starts(t) {
			what := fmt.Sprintf("%s, start %d", c.what, i)
			f := system(t, start)
			s, steps := store.New(f), f.Steps()
			well(t, f.Write("waits", "x"))
			answers(t, what, s.Save(x), c.want)
			f.Arm(0)
			answers(t, what+", armed", s.Save(x), c.want)
			counts(t, what, f, steps+1, 1, false)
			has(t, what, f, with(start, "waits", "x"))
			answers(t, what+", the step that makes it down", f.SyncDir(), api.ErrDown)
			answers(t, what+", while it is down", s.Save(x), c.want)
			counts(t, what+", while it is down", f, steps+1, 1, true)
			f.Crash(all, all)
			has(t, what+", behind a crash", f, with(start, "waits", "x"))
		}
	}
}

// P22.1: the most bytes that a state may have.
func TestSaveOfTheMost(t *testing.T) {
	f := simfs.New()
	s := store.New(f)
	for _, n := range []int{mostPayload - 1, mostPayload} {
		x := big(n)
		well(t, s.Save(x))
		f.Crash(0)
		if b, e := f.Read(kept); len(b) != 13+n || e != api.OK {
			t.Fatalf("of a state of %d bytes %d are kept, and %v", n, len(b), e)
		}
		gives(t, "the most bytes", load(s), this(x))
	}
	answers(t, "Save of one byte more", s.Save(big(mostPayload+1)), api.ErrLong)
	gives(t, "behind it", recovered(s), this(big(mostPayload)))
	x := plain(3, 1024)
	well(t, s.Save(x))
	gives(t, "the most pods", recovered(s), this(x))
}

// deedsAt is how many deeds wait behind so many steps of a Save: that state.tmp comes, if it isn't there, and that it is
// under the other name.
func deedsAt(start map[string]string, steps int) int {
	_, there := start[saving]
	switch {
	case steps == 0 || steps == 4:
		return 0
	case there:
		return steps / 3
	}
	return 1 + steps/3
}

// R1: numbers and texts of all kinds.
func TestSaveOfAnything(t *testing.T) {
	s := store.New(simfs.New())
	for _, n := range []int64{math.MinInt64, -1, 0, 1, 1 << 16, 1 << 32, math.MaxInt64} {
		for _, text := range []string{"", "\xff", "web", strings.Repeat("x", 1<<17)} {
			c := spec.Container{Name: text, Image: text, Command: []string{text}, Ports: []spec.Port{{Number: n, Proto: spec.Proto(n)}}, Cpu: n, Memory: n, Env: []spec.Env{{Name: text, Value: text}}}
			p := spec.Pod{Name: text, Namespace: text, Restart: spec.Restart(n), Grace: n, Containers: []spec.Container{c, c}}
			x := ckthree.State{Seq: uint64(n), Pods: []ckthree.Pod{{File: text, Pod: p}, {File: text, Pod: p}}}
			_, want := ckpt.Three(x)
			if e := s.Save(x); e != want || e == api.OK {
				t.Fatalf("of %d and %q Save answers %v, not %v", n, short(text), e, want)
			}
			gives(t, "behind it", recovered(s), none())
		}
	}
}

// atStep are the files that a Save leaves that goes down behind so many steps, if a crash keeps so many of the deeds, and
// cuts the content that isn't safe.
func atStep(start map[string]string, b string, steps, keep, cut int) map[string]string {
	deeds := deedsAt(start, steps)
	lost := deeds - min(max(keep, 0), deeds)
	came := deeds - steps/3 // whether the coming of state.tmp is one of the deeds
	switch {
	case steps == 4, steps == 3 && lost == 0:
		return with(without(start, saving), kept, b)
	case steps == 0, came == 1 && lost == deeds:
		return start
	case steps > 1:
		return with(start, saving, b)
	case cut < 0:
		return with(start, saving, start[saving])
	}
	return with(start, saving, b[:min(cut, len(b))])
}

// P22.1: where each step goes wrong: its error, the steps ahead of it done, and none behind it.
func TestStepsOfSave(t *testing.T) {
	x := plain(2, 1)
	b := checkpoint(t, x)
	for i, start := range starts(t) {
		for steps := range 5 {
			for keep := -1; keep <= 3; keep++ {
				for _, cut := range []int{-1, 0, 1, 5, len(b) - 1, len(b), len(b) + 1, all} {
					what := fmt.Sprintf("start %d, %d steps, %d kept, cut at %d", i, steps, keep, cut)
					f := system(t, start)
					s, ahead := store.New(f), f.Steps()
					f.Arm(steps)
					want := api.ErrDown
					if steps == 4 {
						want = api.OK
					}
					answers(t, what, s.Save(x), want)
					counts(t, what, f, ahead+steps, deedsAt(start, steps), steps < 4)
					f.Crash(keep, cut)
					has(t, what, f, atStep(start, b, steps, keep, cut))
				}
			}
		}
	}
}

// P22.1: a system that is down does no step, however often it is asked.
func TestSaveWhileDown(t *testing.T) {
	for i, start := range starts(t) {
		what := fmt.Sprint("start ", i)
		f := downed(t, start)
		s, steps := store.New(f), f.Steps()
		for n := range 4 {
			answers(t, what, s.Save(plain(3, n)), api.ErrDown)
			counts(t, what, f, steps, 0, true)
		}
		f.Crash(all, all)
		has(t, what, f, start)
		well(t, s.Save(plain(3, 1)))
		has(t, what, f, with(without(start, saving), kept, checkpoint(t, plain(3, 1))))
	}
}

// P22.1: SyncDir makes safe what others did to names, too, but not their contents.
func TestSaveAndOtherFiles(t *testing.T) {
	f := system(t, map[string]string{"a": "one", "b": "two", "c": "three"})
	s := store.New(f)
	well(t, f.Write("a", "four"), f.Rename("b", "e"), f.Remove("c"), f.Write("d", "five"), s.Save(plain(1, 1)))
	b := checkpoint(t, plain(1, 1))
	has(t, "Save", f, map[string]string{"a": "four", "d": "five", "e": "two", kept: b})
	counts(t, "Save", f, 7+4+4, 0, false)
	f.Crash(0, -1, 2)
	has(t, "behind a crash", f, map[string]string{"a": "one", "d": "fi", "e": "two", kept: b})
}

// changeAll changes all that there is in a state, and behind the ends of its lists.
func changeAll(v reflect.Value) {
	switch v.Kind() {
	case reflect.Struct:
		for i := range v.NumField() {
			changeAll(v.Field(i))
		}
	case reflect.Slice:
		l := v.Slice(0, v.Cap())
		for i := range l.Len() {
			changeAll(l.Index(i))
		}
	case reflect.String:
		v.SetString("changed")
	case reflect.Bool:
		v.SetBool(!v.Bool())
	case reflect.Uint64:
		v.SetUint(v.Uint() + 1)
	default:
		v.SetInt(v.Int() + 1)
	}
}

// roomy is a state whose lists have something behind their ends.
func roomy() ckthree.State {
	s := plain(4, 3)
	s.Pods = s.Pods[:2]
	for i := range s.Pods {
		p := &s.Pods[i].Pod
		c := &p.Containers[1]
		c.Command, c.Ports, c.Env = c.Command[:1], c.Ports[:0], c.Env[:0]
	}
	s.Pods[1].Pod.Containers = s.Pods[1].Pod.Containers[:1]
	return s
}

// laidOpen is a copy of a state whose lists hold what stands behind their ends, too.
func laidOpen(s ckthree.State) ckthree.State {
	s.Pods = slices.Clone(s.Pods[:cap(s.Pods)])
	for i := range s.Pods {
		p := &s.Pods[i].Pod
		p.Containers = slices.Clone(p.Containers[:cap(p.Containers)])
		for k := range p.Containers {
			c := &p.Containers[k]
			c.Command, c.Ports, c.Env = c.Command[:cap(c.Command)], c.Ports[:cap(c.Ports)], c.Env[:cap(c.Env)]
		}
	}
	return s
}

// R3: what is saved stays as it is, and isn't kept: whatever is done to it later, the store has what was saved.
func TestSavedStays(t *testing.T) {
	for _, steps := range []int{0, 1, 2, 3, 4, -1} {
		f := simfs.New()
		s := store.New(f)
		well(t, s.Save(roomy()))
		x := roomy()
		f.Arm(steps)
		s.Save(x)
		if !laidOpen(x).Same(laidOpen(roomy())) {
			t.Fatalf("Save of %d steps changes what it saves", steps)
		}
		f.Crash(all, all)
		changeAll(reflect.ValueOf(&x).Elem())
		if x.Same(roomy()) {
			t.Fatal("nothing was changed")
		}
		gives(t, "what was changed behind it", load(s), this(roomy()))
		gives(t, "what was changed behind it", recovered(s), this(roomy()))
	}
}

// R3: a state that may not be stays, too.
func TestUnsavedStays(t *testing.T) {
	s := store.New(simfs.New())
	for _, c := range spoils() {
		x, y := plain(2, 3), plain(2, 3)
		c.do(&x)
		c.do(&y)
		answers(t, c.what, s.Save(x), c.want)
		if !laidOpen(x).Same(laidOpen(y)) {
			t.Fatalf("%s: Save changes the state", c.what)
		}
	}
}

// R4: nil lists and empty ones are one.
func TestEmptyLists(t *testing.T) {
	x, y := plain(3, 2), plain(3, 2)
	for i := range x.Pods {
		c, d := &x.Pods[i].Pod.Containers[1], &y.Pods[i].Pod.Containers[1]
		c.Command, c.Ports, c.Env = nil, nil, nil
		d.Command, d.Ports, d.Env = []string{}, d.Ports[:0], []spec.Env{}
	}
	for _, l := range [][2]ckthree.State{{x, y}, {{Seq: 5}, {Seq: 5, Pods: []ckthree.Pod{}}}, {{Seq: 5}, {Seq: 5, Pods: x.Pods[:0]}}} {
		f, g := simfs.New(), simfs.New()
		s := store.New(g)
		well(t, store.New(f).Save(l[0]), s.Save(l[1]))
		has(t, "empty lists", g, filesOf(t, f))
		gives(t, "empty lists", load(s), this(l[0]))
	}
}
