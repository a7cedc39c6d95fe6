package ckthree_test

import (
	"fmt"
	"math"
	"slices"
	"strings"
	"testing"

	"bosun/api"
	"bosun/ckthree"
	"bosun/spec"
)

// swap has two items of a list change places.
func swap[T any](l []T, i, k int) { l[i], l[k] = l[k], l[i] }

// changes change a part of a state each, to something that no other one changes it to.
func changes() []func(s *ckthree.State) {
	l := []func(s *ckthree.State){
		func(s *ckthree.State) { s.Seq = 0 },
		func(s *ckthree.State) { s.Seq++ },
		func(s *ckthree.State) { s.Seq += 1 << 32 },
		func(s *ckthree.State) { s.Seq = math.MaxUint64 },
		func(s *ckthree.State) { s.Pods = nil },
		func(s *ckthree.State) { s.Pods = s.Pods[:1] },
		func(s *ckthree.State) { s.Pods = s.Pods[:3] },
		func(s *ckthree.State) { s.Pods = s.Pods[1:] },
		func(s *ckthree.State) { s.Pods = append(s.Pods, ckthree.Pod{}) },
		func(s *ckthree.State) { s.Pods = append(s.Pods, s.Pods[3]) },
		func(s *ckthree.State) { slices.Reverse(s.Pods) },
		func(s *ckthree.State) { swap(s.Pods, 0, 1) },
		func(s *ckthree.State) { swap(s.Pods, 2, 3) },
		func(s *ckthree.State) { s.Pods[2].Pod, s.Pods[3].Pod = s.Pods[3].Pod, s.Pods[2].Pod },
		func(s *ckthree.State) { s.Pods[2] = s.Pods[3] },
		func(s *ckthree.State) { s.Pods[2] = ckthree.Pod{} },
	}
	for i, p := range plain().Pods {
		l = append(l,
			func(s *ckthree.State) { s.Pods[i].File = "" },
			func(s *ckthree.State) { s.Pods[i].File += "a" },
			func(s *ckthree.State) { s.Pods[i].File, s.Pods[i].Pod.Name = s.Pods[i].Pod.Name, s.Pods[i].File })
		for _, do := range podChanges(p.Pod) {
			l = append(l, func(s *ckthree.State) { do(&s.Pods[i].Pod) })
		}
		for k, c := range p.Pod.Containers {
			for _, do := range containerChanges(c) {
				l = append(l, func(s *ckthree.State) { do(&s.Pods[i].Pod.Containers[k]) })
			}
		}
	}
	return l
}

// podChanges change a part of a pod each, likewise.
func podChanges(of spec.Pod) []func(p *spec.Pod) {
	l := []func(p *spec.Pod){
		func(p *spec.Pod) { p.Name = "" },
		func(p *spec.Pod) { p.Name += "a" },
		func(p *spec.Pod) { p.Name, p.Namespace = p.Namespace, p.Name },
		func(p *spec.Pod) { p.Namespace = "" },
		func(p *spec.Pod) { p.Namespace += "\x00" },
		func(p *spec.Pod) { p.Restart += 4 },
		func(p *spec.Pod) { p.Restart += 256 },
		func(p *spec.Pod) { p.Restart += 1 << 32 },
		func(p *spec.Pod) { p.Grace = 0 },
		func(p *spec.Pod) { p.Grace++ },
		func(p *spec.Pod) { p.Grace += 1 << 16 },
		func(p *spec.Pod) { p.Grace += 1 << 32 },
		func(p *spec.Pod) { p.Host = !p.Host },
		func(p *spec.Pod) { p.Containers = nil },
		func(p *spec.Pod) { p.Containers = append(p.Containers, spec.Container{}) },
		func(p *spec.Pod) { p.Containers = append(p.Containers, p.Containers[0]) },
	}
	if len(of.Containers) > 1 {
		l = append(l,
			func(p *spec.Pod) { p.Containers = p.Containers[:1] },
			func(p *spec.Pod) { p.Containers = p.Containers[1:] },
			func(p *spec.Pod) { swap(p.Containers, 0, 1) },
			func(p *spec.Pod) { p.Containers[1] = p.Containers[0] })
	}
	if len(of.Containers) > 2 {
		l = append(l,
			func(p *spec.Pod) { p.Containers = p.Containers[:2] },
			func(p *spec.Pod) { swap(p.Containers, 1, 2) },
			func(p *spec.Pod) { slices.Reverse(p.Containers) })
	}
	return l
}

// containerChanges change a part of a container each, likewise.
func containerChanges(of spec.Container) []func(c *spec.Container) {
	l := []func(c *spec.Container){
		func(c *spec.Container) { c.Name = "other" },
		func(c *spec.Container) { c.Name += "\x00" },
		func(c *spec.Container) { c.Name, c.Image = c.Image, c.Name },
		func(c *spec.Container) { c.Image = "" },
		func(c *spec.Container) { c.Image += " " },
		func(c *spec.Container) { c.Command = append(c.Command, "") },
		func(c *spec.Container) { c.Command = append(c.Command, "-v") },
		func(c *spec.Container) { c.Ports = append(c.Ports, spec.Port{}) },
		func(c *spec.Container) { c.Ports = append(c.Ports, spec.Port{Number: 5353, Proto: 1}) },
		func(c *spec.Container) { c.Cpu = 0 },
		func(c *spec.Container) { c.Cpu++ },
		func(c *spec.Container) { c.Cpu += 1 << 32 },
		func(c *spec.Container) { c.Memory = 0 },
		func(c *spec.Container) { c.Memory++ },
		func(c *spec.Container) { c.Memory += 1 << 32 },
		func(c *spec.Container) { c.Env = append(c.Env, spec.Env{}) },
		func(c *spec.Container) { c.Env = append(c.Env, spec.Env{Name: "LANG", Value: "é"}) },
	}
	if len(of.Command) == 0 {
		return l
	}
	return append(l,
		func(c *spec.Container) { c.Cpu, c.Memory = c.Memory, c.Cpu },
		func(c *spec.Container) { c.Command = nil },
		func(c *spec.Container) { c.Command = c.Command[:1] },
		func(c *spec.Container) { c.Command = c.Command[1:] },
		func(c *spec.Container) { c.Command = []string{"serve-v"} },
		func(c *spec.Container) { c.Command[0] = "Serve" },
		func(c *spec.Container) { c.Command[1] = "" },
		func(c *spec.Container) { swap(c.Command, 0, 1) },
		func(c *spec.Container) { c.Ports = nil },
		func(c *spec.Container) { c.Ports = c.Ports[:1] },
		func(c *spec.Container) { c.Ports = c.Ports[1:] },
		func(c *spec.Container) { c.Ports[0].Number = 81 },
		func(c *spec.Container) { c.Ports[1].Number += 1 << 16 },
		func(c *spec.Container) { c.Ports[0].Proto = spec.UDP },
		func(c *spec.Container) { c.Ports[1].Proto += 256 },
		func(c *spec.Container) { swap(c.Ports, 0, 1) },
		func(c *spec.Container) { c.Env = nil },
		func(c *spec.Container) { c.Env = c.Env[:1] },
		func(c *spec.Container) { c.Env = c.Env[1:] },
		func(c *spec.Container) { c.Env[0].Name = "Home" },
		func(c *spec.Container) { c.Env[1].Name = "" },
		func(c *spec.Container) { c.Env[0].Value = "" },
		func(c *spec.Container) { c.Env[1].Value += "\x00" },
		func(c *spec.Container) { c.Env[0] = spec.Env{Name: c.Env[0].Value, Value: c.Env[0].Name} },
		func(c *spec.Container) { swap(c.Env, 0, 1) })
}

// holdSame holds Same both ways round.
func holdSame(t *testing.T, what string, a, b ckthree.State, want bool) {
	t.Helper()
	if a.Same(b) != want || b.Same(a) != want {
		t.Fatalf("%s: Same is %t, and the other way round %t, not %t", what, a.Same(b), b.Same(a), want)
	}
}

// P19.1: two states are alike if all their parts are, be they such as may be or not, and unlike if one part is.
func TestSame(t *testing.T) {
	states := []ckthree.State{plain()}
	for _, do := range changes() {
		s := plain()
		do(&s)
		states = append(states, s)
	}
	for i, a := range states {
		before := copyOf(a)
		for k, b := range states {
			holdSame(t, fmt.Sprintf("the states %d and %d", i, k), before, b, i == k)
		}
		holdSame(t, "a state and itself", a, a, true)
		if !untouched(a, before) {
			t.Fatal("Same changed a state")
		}
	}
}

// P19.1, R4: nil lists and empty ones are alike; what stands behind a list's end plays no part.
func TestSameOfLists(t *testing.T) {
	none, empty, some := ckthree.State{}, ckthree.State{Pods: []ckthree.Pod{}}, ckthree.State{Pods: plain().Pods[:0]}
	for _, a := range []ckthree.State{none, empty, some} {
		for _, b := range []ckthree.State{none, empty, some} {
			holdSame(t, "states without pods", a, b, true)
		}
		holdSame(t, "a state without pods, and one with some", a, plain(), false)
		holdSame(t, "a state without pods, and a zero pod", a, ckthree.State{Pods: make([]ckthree.Pod, 1)}, false)
	}
	of := func(l ...spec.Container) ckthree.State { return one(ckthree.Pod{Pod: spec.Pod{Containers: l}}) }
	for _, l := range [][]spec.Container{nil, {}, plain().Pods[0].Pod.Containers[:0]} {
		for _, m := range [][]spec.Container{nil, {}, plain().Pods[1].Pod.Containers[:0]} {
			holdSame(t, "pods without containers", of(l...), of(m...), true)
		}
		holdSame(t, "a pod without containers, and a zero one", of(l...), of(spec.Container{}), false)
	}
	c := full("c")
	for _, x := range []spec.Container{{Command: []string{}}, {Ports: []spec.Port{}}, {Env: []spec.Env{}}, {Command: c.Command[:0], Ports: c.Ports[:0], Env: c.Env[:0]}} {
		holdSame(t, "empty lists, and nil ones", of(x), of(spec.Container{}), true)
		holdSame(t, "an empty list, and a zero item", of(x), of(spec.Container{Command: []string{""}}), false)
		holdSame(t, "an empty list, and a zero item", of(x), of(spec.Container{Ports: make([]spec.Port, 1)}), false)
		holdSame(t, "an empty list, and a zero item", of(x), of(spec.Container{Env: make([]spec.Env, 1)}), false)
	}
	a, b := plain(), plain()
	a.Pods, b.Pods = a.Pods[:3], slices.Clone(b.Pods[:3])
	a.Pods[:4][3].File = "other"
	p, q := &a.Pods[1].Pod, &b.Pods[1].Pod
	p.Containers, q.Containers = p.Containers[:2], slices.Clone(q.Containers[:2])
	p.Containers[:3][2].Name = "other"
	p.Containers[0].Command, q.Containers[0].Command = p.Containers[0].Command[:1], []string{"serve"}
	p.Containers[0].Env, q.Containers[0].Env = p.Containers[0].Env[:1], slices.Clone(q.Containers[0].Env[:1])
	p.Containers[0].Env[:2][1].Name = "other"
	holdSame(t, "states with room behind their ends", a, b, true)
}

// holdFind holds what is found in a state: of each File it has, and of Files much like these.
func holdFind(t *testing.T, what string, s ckthree.State) {
	t.Helper()
	before := copyOf(s)
	files := []string{"", "a", "other", "\xff", strings.Repeat("f", 65)}
	for _, p := range s.Pods {
		files = append(files, p.File, p.File+"a", p.File+"\x00", "a"+p.File, p.File[:len(p.File)/2], strings.ToUpper(p.File), p.Pod.Name)
	}
	for _, file := range files {
		var want spec.Pod
		there := false
		for i := len(s.Pods) - 1; i >= 0; i-- {
			if s.Pods[i].File == file {
				want, there = s.Pods[i].Pod, true
			}
		}
		if p, ok := s.Find(file); !equalPods(p, want) || ok != there {
			t.Fatalf("%s: Find of %q is %+v, %t, not %+v, %t", what, file, p, ok, want, there)
		}
	}
	if !untouched(s, before) {
		t.Fatalf("%s: Find changed the state", what)
	}
}

// P19.1: the pod of a File, or none.
func TestFind(t *testing.T) {
	s := plain()
	for i, file := range []string{"a.json", "b/c.yaml", "b/d_1", "b/d_1.json"} {
		if p, ok := s.Find(file); !ok || !equalPods(p, plain().Pods[i].Pod) {
			t.Errorf("Find of %q is %+v, %t", file, p, ok)
		}
	}
	for _, file := range []string{"", "a", "a.jso", "a.json ", "a.json/", "A.JSON", "b", "b/", "b/c", "b/d_1.", "b/d_10", "b/d_2", "c", "web", "!", "\x00", "zzz"} {
		if p, ok := s.Find(file); ok || !equalPods(p, spec.Pod{}) {
			t.Errorf("Find of %q, which isn't there, is %+v, %t", file, p, ok)
		}
	}
	holdFind(t, "a state", s)
	holdFind(t, "a state without pods", ckthree.State{Seq: 7})
	holdFind(t, "a state with an empty list of pods", ckthree.State{Pods: []ckthree.Pod{}})
	holdFind(t, "1024 pods", many(1024))
	if p, ok := (ckthree.State{Pods: plain().Pods[:0]}).Find("a.json"); ok || !equalPods(p, spec.Pod{}) {
		t.Errorf("what stands behind the end is found: %+v", p)
	}
}

// P19.1: in states that may not be the first pod of a File is found, too, as it is.
func TestFindOfOthers(t *testing.T) {
	named := func(files ...string) ckthree.State {
		var s ckthree.State
		for i, f := range files {
			s.Pods = append(s.Pods, ckthree.Pod{File: f, Pod: spec.Pod{Name: letter(i)}})
		}
		return s
	}
	for _, x := range []struct {
		files, file, name string
	}{
		{"a a", "a", "a"}, {"a a a", "a", "a"}, {"a b b", "b", "b"}, {"a b b c", "b", "b"}, {"b a b", "b", "a"}, {"b b a a", "a", "c"},
		{"c b a", "c", "a"}, {"c b a", "b", "b"}, {"c b a", "a", "c"}, {"b d a c", "d", "b"}, {"b d a c", "c", "d"}, {"d a b c d a", "d", "a"},
		{"A ! é", "é", "c"}, {"A ! é", "!", "b"}, {"\xff a", "\xff", "a"}, {"z y x w v u t s", "s", "h"}, {"z y x w v u t s", "z", "a"},
	} {
		s := named(strings.Split(x.files, " ")...)
		if p, ok := s.Find(x.file); !ok || p.Name != x.name {
			t.Errorf("Find of %q in %q is %q, %t, not %q", x.file, x.files, p.Name, ok, x.name)
		}
		holdFind(t, x.files, s)
		if p, ok := s.Find("none"); ok || p.Name != "" {
			t.Errorf("Find of what isn't there in %q is %q, %t", x.files, p.Name, ok)
		}
	}
	if p, ok := named("a", "", "").Find(""); !ok || p.Name != "b" {
		t.Errorf("Find of an empty File is %q, %t", p.Name, ok)
	}
	s := named(slices.Repeat([]string{"a"}, 3000)...)
	s.Pods[2999].File = "b"
	if p, ok := s.Find("b"); !ok || p.Name != s.Pods[2999].Pod.Name {
		t.Errorf("the last one of too many pods is %q, %t", p.Name, ok)
	}
	for i := range plain().Pods {
		for _, x := range allSpoils(i) {
			s := plain()
			x.do(&s)
			holdFind(t, x.what, s)
			if s.Check() == api.OK {
				t.Errorf("%s: there is nothing wrong", x.what)
			}
		}
	}
}
