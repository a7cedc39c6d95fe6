package cktwo_test

import (
	"fmt"
	"math"
	"slices"
	"testing"

	"bosun/cktwo"
)

// changes change a part of a state each, to something that no other one changes it to.
func changes() []func(s *cktwo.State) {
	l := []func(s *cktwo.State){
		func(s *cktwo.State) { s.Seq = 0 },
		func(s *cktwo.State) { s.Seq++ },
		func(s *cktwo.State) { s.Seq += 1 << 32 },
		func(s *cktwo.State) { s.Seq = math.MaxUint64 },
		func(s *cktwo.State) { s.Pods = nil },
		func(s *cktwo.State) { s.Pods = s.Pods[:1] },
		func(s *cktwo.State) { s.Pods = s.Pods[:3] },
		func(s *cktwo.State) { s.Pods = s.Pods[1:] },
		func(s *cktwo.State) { s.Pods = append(s.Pods, cktwo.Pod{}) },
		func(s *cktwo.State) { s.Pods = append(s.Pods, s.Pods[3]) },
		func(s *cktwo.State) { slices.Reverse(s.Pods) },
		func(s *cktwo.State) { s.Pods[0], s.Pods[1] = s.Pods[1], s.Pods[0] },
		func(s *cktwo.State) { s.Pods[2], s.Pods[3] = s.Pods[3], s.Pods[2] },
		func(s *cktwo.State) { s.Pods[2] = s.Pods[3] },
		func(s *cktwo.State) { s.Pods[2] = cktwo.Pod{} },
	}
	for i, p := range plain().Pods {
		for _, do := range podChanges(p) {
			l = append(l, func(s *cktwo.State) { do(&s.Pods[i]) })
		}
		for k := range p.Containers {
			for _, do := range containerChanges() {
				l = append(l, func(s *cktwo.State) { do(&s.Pods[i].Containers[k]) })
			}
		}
	}
	return l
}

// podChanges change a part of a pod each, likewise.
func podChanges(of cktwo.Pod) []func(p *cktwo.Pod) {
	l := []func(p *cktwo.Pod){
		func(p *cktwo.Pod) { p.File = "" },
		func(p *cktwo.Pod) { p.File += "a" },
		func(p *cktwo.Pod) { p.File, p.Name = p.Name, p.File },
		func(p *cktwo.Pod) { p.Name = "" },
		func(p *cktwo.Pod) { p.Name += "a" },
		func(p *cktwo.Pod) { p.Name, p.Namespace = p.Namespace, p.Name },
		func(p *cktwo.Pod) { p.Namespace = "" },
		func(p *cktwo.Pod) { p.Namespace += "\x00" },
		func(p *cktwo.Pod) { p.Restart ^= 128 },
		func(p *cktwo.Pod) { p.Restart += 4 },
		func(p *cktwo.Pod) { p.Grace = 0 },
		func(p *cktwo.Pod) { p.Grace++ },
		func(p *cktwo.Pod) { p.Grace ^= 1 << 15 },
		func(p *cktwo.Pod) { p.Grace += 1 << 8 },
		func(p *cktwo.Pod) { p.Containers = nil },
		func(p *cktwo.Pod) { p.Containers = append(p.Containers, cktwo.Container{}) },
		func(p *cktwo.Pod) { p.Containers = append(p.Containers, p.Containers[0]) },
	}
	if len(of.Containers) > 1 {
		l = append(l,
			func(p *cktwo.Pod) { p.Containers = p.Containers[:1] },
			func(p *cktwo.Pod) { p.Containers = p.Containers[1:] },
			func(p *cktwo.Pod) { p.Containers[0], p.Containers[1] = p.Containers[1], p.Containers[0] },
			func(p *cktwo.Pod) { p.Containers[1] = p.Containers[0] })
	}
	if len(of.Containers) > 2 {
		l = append(l,
			func(p *cktwo.Pod) { p.Containers = p.Containers[:2] },
			func(p *cktwo.Pod) { p.Containers[1], p.Containers[2] = p.Containers[2], p.Containers[1] },
			func(p *cktwo.Pod) { slices.Reverse(p.Containers) })
	}
	return l
}

// containerChanges change a part of a container each, likewise.
func containerChanges() []func(c *cktwo.Container) {
	return []func(c *cktwo.Container){
		func(c *cktwo.Container) { c.Name = "other" },
		func(c *cktwo.Container) { c.Name += "\x00" },
		func(c *cktwo.Container) { c.Name, c.Image = c.Image, c.Name },
		func(c *cktwo.Container) { c.Image = "" },
		func(c *cktwo.Container) { c.Image += " " },
	}
}

// holdSame holds Same both ways round.
func holdSame(t *testing.T, what string, a, b cktwo.State, want bool) {
	t.Helper()
	if a.Same(b) != want || b.Same(a) != want {
		t.Errorf("%s: Same is %t, and the other way round %t, not %t", what, a.Same(b), b.Same(a), want)
	}
}

// P18.1: two states are alike if all their parts are, be they such as may be or not, and unlike if one part is.
func TestSame(t *testing.T) {
	states := []cktwo.State{plain()}
	for _, do := range changes() {
		s := plain()
		do(&s)
		states = append(states, s)
	}
	for i, a := range states {
		for k, b := range states {
			before := copyOf(b)
			holdSame(t, fmt.Sprintf("the states %d and %d", i, k), a, copyOf(b), i == k)
			if !untouched(b, before) {
				t.Fatal("Same changed a state")
			}
		}
		holdSame(t, "a state and itself", a, a, true)
	}
}

// P18.1, R4: nil lists and empty ones are alike; what stands behind a list's end plays no part.
func TestSameOfLists(t *testing.T) {
	none, empty, room := cktwo.State{}, cktwo.State{Pods: []cktwo.Pod{}}, cktwo.State{Pods: plain().Pods[:0]}
	for _, a := range []cktwo.State{none, empty, room} {
		for _, b := range []cktwo.State{none, empty, room} {
			holdSame(t, "states without pods", a, b, true)
		}
		holdSame(t, "a state without pods, and one with some", a, plain(), false)
		holdSame(t, "a state without pods, and a zero pod", a, cktwo.State{Pods: make([]cktwo.Pod, 1)}, false)
	}
	for _, l := range [][]cktwo.Container{nil, {}, plain().Pods[0].Containers[:0]} {
		for _, m := range [][]cktwo.Container{nil, {}, plain().Pods[1].Containers[:0]} {
			holdSame(t, "pods without containers", one(cktwo.Pod{Containers: l}), one(cktwo.Pod{Containers: m}), true)
		}
		holdSame(t, "a pod without containers, and a zero one", one(cktwo.Pod{Containers: l}), one(cktwo.Pod{Containers: make([]cktwo.Container, 1)}), false)
	}
	a, b := plain(), plain()
	a.Pods, b.Pods = a.Pods[:3], slices.Clone(b.Pods[:3])
	a.Pods[:4][3].Name = "other"
	a.Pods[1].Containers, b.Pods[1].Containers = a.Pods[1].Containers[:2], slices.Clone(b.Pods[1].Containers[:2])
	a.Pods[1].Containers[:3][2].Name = "other"
	holdSame(t, "states with room behind their ends", a, b, true)
}
