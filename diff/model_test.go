package diff_test

import (
	"fmt"
	"math/rand"
	"reflect"
	"slices"
	"testing"

	"bosun/ckthree"
	"bosun/diff"
	"bosun/spec"
)

// plainPod is a pod with nil in place of empty lists, so that pods that are alike are deeply equal.
func plainPod(p spec.Pod) spec.Pod {
	p = copiedPod(p)
	for i := range p.Containers {
		c := &p.Containers[i]
		c.Command, c.Ports, c.Env = plainList(c.Command), plainList(c.Ports), plainList(c.Env)
	}
	p.Containers = plainList(p.Containers)
	return p
}

func plainList[T any](l []T) []T {
	if len(l) == 0 {
		return nil
	}
	return l
}

// byFile is what the chapter's words say, File by File.
func byFile(a, b ckthree.State) []diff.Event {
	first, second := map[string]spec.Pod{}, map[string]spec.Pod{}
	files := map[string]bool{}
	for _, p := range a.Pods {
		first[p.File], files[p.File] = p.Pod, true
	}
	for _, p := range b.Pods {
		second[p.File], files[p.File] = p.Pod, true
	}
	var want []diff.Event
	for file := range files {
		p, old := first[file]
		q, new := second[file]
		switch {
		case !old:
			want = append(want, diff.Event{Kind: diff.Add, File: file, Name: q.Name})
		case !new:
			want = append(want, diff.Event{Kind: diff.Remove, File: file, Name: p.Name})
		case !reflect.DeepEqual(plainPod(p), plainPod(q)):
			want = append(want, diff.Event{Kind: diff.Update, File: file, Name: q.Name})
		}
	}
	slices.SortFunc(want, func(d, e diff.Event) int { return slices.Compare([]byte(d.File), []byte(e.File)) })
	return want
}

// draw draws states.
type draw struct {
	*rand.Rand
	pods  []spec.Pod
	files []string
}

// newDraw draws from few Files and few pods, so that these come in both of two states.
func newDraw(seed int64) *draw {
	d := &draw{Rand: rand.New(rand.NewSource(seed)), files: rising()}
	for _, p := range []spec.Pod{rich(), mid(), poor()} {
		d.pods = append(d.pods, p)
		all := variants(p)
		for range 4 {
			d.pods = append(d.pods, all[d.Intn(len(all))].pod)
		}
	}
	return d
}

// pod is a pod of its own memory, with empty lists nil or not.
func (d *draw) pod() spec.Pod {
	p := copiedPod(d.pods[d.Intn(len(d.pods))])
	for i := range p.Containers {
		c := &p.Containers[i]
		if len(c.Env) == 0 && d.Intn(2) == 0 {
			c.Env, c.Ports = []spec.Env{}, make([]spec.Port, 0, 2)
		}
	}
	return p
}

// state is a state whose Files rise: each of them with a chance in so many.
func (d *draw) state(in int) ckthree.State {
	s := ckthree.State{Seq: d.Uint64()}
	for _, f := range d.files {
		if d.Intn(in) == 0 {
			s.Pods = append(s.Pods, ckthree.Pod{File: f, Pod: d.pod()})
		}
	}
	return s
}

// edited is a state that was made of another one by few changes, or by none.
func (d *draw) edited(a ckthree.State) ckthree.State {
	b := ckthree.State{Seq: a.Seq + 1}
	left := a.Pods
	in := []int{8, 8, 100, 1000000}[d.Intn(4)] // a change comes once in so many
	for _, f := range d.files {
		had := len(left) > 0 && left[0].File == f
		kept := had && d.Intn(in) > 0
		if kept {
			b.Pods = append(b.Pods, copied(ckthree.State{Pods: left[:1]}).Pods[0])
		}
		if had {
			left = left[1:]
		}
		switch {
		case kept && d.Intn(in) == 0:
			b.Pods[len(b.Pods)-1].Pod = d.pod()
		case !had && d.Intn(in) == 0:
			b.Pods = append(b.Pods, ckthree.Pod{File: f, Pod: d.pod()})
		}
	}
	return b
}

// P23.1, P23.2: states that are drawn: what changed is what is found File by File; the other way round it is as much; there
// is no event just where the pods are alike.
func TestDrawn(t *testing.T) {
	seen := map[string]int{}
	for n := range 60 {
		d := newDraw(int64(n))
		for i := range 150 {
			a := d.state(1 + d.Intn(5))
			b := d.state(1 + d.Intn(5))
			if d.Intn(2) == 0 {
				b = d.edited(a)
			}
			what := fmt.Sprint("draw ", n, ".", i)
			x, y := copied(a), copied(b)
			want := byFile(a, b)
			holdBoth(t, what, a, b, want)
			holdAlike(t, what, a, b, len(want) == 0)
			stays(t, what+", the first", a, x)
			stays(t, what+", the second", b, y)
			seen[fmt.Sprint("none ", len(want) == 0)]++
			for _, e := range want {
				seen[e.Kind.String()]++
			}
		}
	}
	for _, word := range []string{"add", "update", "remove", "none true", "none false"} {
		if seen[word] < 1000 {
			t.Errorf("%s came %d times", word, seen[word])
		}
	}
}

// holdAlike holds that there is no event just if the pods are alike, as layer 19 says it of states of one Seq.
func holdAlike(t *testing.T, what string, a, b ckthree.State, none bool) {
	t.Helper()
	b.Seq = a.Seq
	if a.Same(b) != none || (len(diff.Between(a, b)) == 0) != none {
		t.Errorf("%s: alike %v, events %q, want none: %v", what, a.Same(b), diff.Between(a, b), none)
	}
}

// P23.2: what changed from one state to another one by way of a third one: the Files of which something is told are among
// those of both ways.
func TestByWay(t *testing.T) {
	d := newDraw(1)
	for n := range 3000 {
		a := d.state(3)
		b := d.edited(a)
		c := d.edited(b)
		told := map[string]bool{}
		for _, e := range slices.Concat(diff.Between(a, b), diff.Between(b, c)) {
			told[e.File] = true
		}
		for _, e := range diff.Between(a, c) {
			if !told[e.File] {
				t.Errorf("by way %d: %q wasn't told on the way", n, e)
			}
		}
	}
}

// R1, R6: rows of any Files, in any order: the call ends and doesn't panic; the same question answers the same.
func TestAnyRows(t *testing.T) {
	d := newDraw(2)
	row := func() ckthree.State {
		s := ckthree.State{Seq: d.Uint64()}
		for range d.Intn(12) {
			s.Pods = append(s.Pods, ckthree.Pod{File: d.files[d.Intn(len(d.files))], Pod: d.pod()})
		}
		return s
	}
	for n := range 10000 {
		a, b := row(), row()
		x, y := copied(a), copied(b)
		what := fmt.Sprint("row ", n)
		gives(t, what, diff.Between(a, b), diff.Between(x, y))
		stays(t, what+", the first", a, x)
		stays(t, what+", the second", b, y)
	}
}
