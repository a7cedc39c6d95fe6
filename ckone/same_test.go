package ckone_test

import (
	"fmt"
	"math"
	"slices"
	"testing"

	"bosun/ckone"
)

// changes change a part of a state each, to something that no other one changes it to.
func changes() []func(s *ckone.State) {
	l := []func(s *ckone.State){
		func(s *ckone.State) { s.Seq = 0 },
		func(s *ckone.State) { s.Seq++ },
		func(s *ckone.State) { s.Seq += 1 << 16 },
		func(s *ckone.State) { s.Seq = math.MaxUint32 },
		func(s *ckone.State) { s.Pods = nil },
		func(s *ckone.State) { s.Pods = s.Pods[:1] },
		func(s *ckone.State) { s.Pods = s.Pods[:4] },
		func(s *ckone.State) { s.Pods = s.Pods[1:] },
		func(s *ckone.State) { s.Pods = append(s.Pods, ckone.Pod{}) },
		func(s *ckone.State) { s.Pods = append(s.Pods, s.Pods[4]) },
		func(s *ckone.State) { slices.Reverse(s.Pods) },
		func(s *ckone.State) { s.Pods[0], s.Pods[1] = s.Pods[1], s.Pods[0] },
		func(s *ckone.State) { s.Pods[3], s.Pods[4] = s.Pods[4], s.Pods[3] },
		func(s *ckone.State) { s.Pods[2] = s.Pods[3] },
		func(s *ckone.State) { s.Pods[2] = ckone.Pod{} },
	}
	for i := range plain().Pods {
		for _, do := range []func(p *ckone.Pod){
			func(p *ckone.Pod) { p.File = "" },
			func(p *ckone.Pod) { p.File += "a" },
			func(p *ckone.Pod) { p.File, p.Name = p.Name, p.File },
			func(p *ckone.Pod) { p.Name = "" },
			func(p *ckone.Pod) { p.Name += "a" },
			func(p *ckone.Pod) { p.Name += "\x00" },
			func(p *ckone.Pod) { p.Image = "" },
			func(p *ckone.Pod) { p.Image = "I" + p.Image[1:] },
			func(p *ckone.Pod) { p.File, p.Image = p.Image, p.File },
			func(p *ckone.Pod) { p.Restart ^= 128 },
			func(p *ckone.Pod) { p.Restart += 4 },
			func(p *ckone.Pod) { p.Restart = 255 },
		} {
			l = append(l, func(s *ckone.State) { do(&s.Pods[i]) })
		}
	}
	return l
}

// holdSame holds Same both ways round.
func holdSame(t *testing.T, what string, a, b ckone.State, want bool) {
	t.Helper()
	if a.Same(b) != want || b.Same(a) != want {
		t.Errorf("%s: Same is %t, and the other way round %t, not %t", what, a.Same(b), b.Same(a), want)
	}
}

// P17.1: two states are alike if all their parts are, be they such as may be or not, and unlike if one part is.
func TestSame(t *testing.T) {
	states := []ckone.State{plain()}
	for _, do := range changes() {
		s := plain()
		do(&s)
		states = append(states, s)
	}
	for i, a := range states {
		for k, b := range states {
			before := copyOf(b)
			holdSame(t, fmt.Sprintf("the states %d and %d", i, k), a, copyOf(b), i == k)
			if !equal(b, before) {
				t.Fatal("Same changed a state")
			}
		}
		holdSame(t, "a state and itself", a, a, true)
	}
}

// P17.1, R4: nil lists and empty ones are alike; what stands behind a list's end plays no part.
func TestSameOfLists(t *testing.T) {
	none, empty, room := ckone.State{}, ckone.State{Pods: []ckone.Pod{}}, ckone.State{Pods: plain().Pods[:0]}
	for _, a := range []ckone.State{none, empty, room} {
		for _, b := range []ckone.State{none, empty, room} {
			holdSame(t, "states without pods", a, b, true)
		}
		holdSame(t, "a state without pods, and one with some", a, plain(), false)
		holdSame(t, "a state without pods, and a zero pod", a, ckone.State{Pods: make([]ckone.Pod, 1)}, false)
	}
	a, b := plain(), plain()
	a.Pods, b.Pods = a.Pods[:3], slices.Clone(b.Pods[:3])
	a.Pods[:5][3].Name = "other"
	holdSame(t, "states with room behind their ends", a, b, true)
}
