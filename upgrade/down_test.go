package upgrade_test

import (
	"fmt"
	"math"
	"slices"
	"testing"

	"bosun/ckone"
	"bosun/ckthree"
	"bosun/cktwo"
	"bosun/spec"
	"bosun/upgrade"
)

// podStrays change a pod to one that Three never makes.
func podStrays() map[string]func(p *spec.Pod) {
	l := map[string]func(p *spec.Pod){
		"Host":             func(p *spec.Pod) { p.Host = true },
		"a zero container": func(p *spec.Pod) { p.Containers = append(p.Containers, spec.Container{}) },
	}
	for _, n := range []int64{-1, -2, -255, -256, 256, 257, 258, 512, 65536, 1<<32 - 1, 1 << 32, 1<<32 + 1, -1 << 32, math.MinInt64, math.MinInt64 + 1, math.MaxInt64} {
		l[fmt.Sprint("the Restart ", n)] = func(p *spec.Pod) { p.Restart = spec.Restart(n) }
	}
	for _, n := range []int64{-1, -30, -65535, -65536, 65536, 65537, 65536 + 30, 65536 + 3600, 1<<32 - 1, 1 << 32, 1<<32 + 30, -1 << 32, math.MinInt64, math.MinInt64 + 30, math.MaxInt64} {
		l[fmt.Sprint("the Grace ", n)] = func(p *spec.Pod) { p.Grace = n }
	}
	return l
}

// containerStrays change a container to one that Three never makes.
func containerStrays() map[string]func(c *spec.Container) {
	l := map[string]func(c *spec.Container){
		"a zero one":      func(c *spec.Container) { *c = spec.Container{} },
		"Cpu and Memory":  func(c *spec.Container) { c.Cpu, c.Memory = c.Memory, c.Cpu },
		"an empty text":   func(c *spec.Container) { c.Command = []string{""} },
		"a text":          func(c *spec.Container) { c.Command = []string{"x"} },
		"16 texts":        func(c *spec.Container) { c.Command = make([]string, 16) },
		"17 texts":        func(c *spec.Container) { c.Command = make([]string, 17) },
		"a zero port":     func(c *spec.Container) { c.Ports = make([]spec.Port, 1) },
		"a port":          func(c *spec.Container) { c.Ports = []spec.Port{{Number: 80, Proto: spec.UDP}} },
		"17 ports":        func(c *spec.Container) { c.Ports = make([]spec.Port, 17) },
		"a zero variable": func(c *spec.Container) { c.Env = make([]spec.Env, 1) },
		"a variable":      func(c *spec.Container) { c.Env = []spec.Env{{Name: "A", Value: "x"}} },
		"17 variables":    func(c *spec.Container) { c.Env = make([]spec.Env, 17) },
		"all lists": func(c *spec.Container) {
			c.Command, c.Ports, c.Env = make([]string, 1), make([]spec.Port, 1), make([]spec.Env, 1)
		},
		"no Cpu and no Memory":  func(c *spec.Container) { c.Cpu, c.Memory = 0, 0 },
		"Cpu and Memory 1 more": func(c *spec.Container) { c.Cpu, c.Memory = 101, 65 },
	}
	for _, n := range []int64{0, 1, -1, 64, 99, 101, 200, 64000, 64001, -100, 100 + 256, 100 + 65536, 100 + 1<<32, 100 - 1<<32, math.MinInt64, math.MinInt64 + 100, math.MaxInt64} {
		l[fmt.Sprint("the Cpu ", n)] = func(c *spec.Container) { c.Cpu = n }
	}
	for _, n := range []int64{0, 1, -1, 63, 65, 100, 128, 1 << 20, 1<<20 + 1, -64, 64 + 256, 64 + 65536, 64 + 1<<32, 64 - 1<<32, math.MinInt64, math.MinInt64 + 64, math.MaxInt64} {
		l[fmt.Sprint("the Memory ", n)] = func(c *spec.Container) { c.Memory = n }
	}
	return l
}

// P20.2: a state of version 3 in which one thing, in any of the pods, or of their containers, isn't as Three makes it.
func TestStrays(t *testing.T) {
	for _, of := range []cktwo.State{plainTwo(), manyTwo(1, 1), manyTwo(3, 3), manyTwo(2, 16), upgrade.Two(plainOne()), {Pods: []cktwo.Pod{{}, {}}}} {
		for i, p := range of.Pods {
			for what, do := range podStrays() {
				s := threeOf(of)
				do(&s.Pods[i].Pod)
				holdDown(t, fmt.Sprint(what, " of pod ", i), s, cktwo.State{}, false)
			}
			for k := range p.Containers {
				for what, do := range containerStrays() {
					s := threeOf(of)
					do(&s.Pods[i].Pod.Containers[k])
					holdDown(t, fmt.Sprint(what, " of container ", k, " of pod ", i), s, cktwo.State{}, false)
				}
			}
		}
	}
}

// P20.2: the same of the first, a middle and the last of many pods, and of a state whose things are all strays.
func TestStraysAmongMany(t *testing.T) {
	for _, i := range []int{0, 511, 1023} {
		s := threeOf(manyTwo(1024, 2))
		s.Pods[i].Pod.Host = true
		holdLoose(t, "Host", s)
		s = threeOf(manyTwo(1024, 2))
		s.Pods[i].Pod.Containers[1].Memory = 65
		holdLoose(t, "a Memory", s)
	}
	var all ckthree.State
	for what, do := range containerStrays() {
		s := threeOf(plainTwo())
		for i := range s.Pods {
			s.Pods[i].Pod.Host = true
			for k := range s.Pods[i].Pod.Containers {
				do(&s.Pods[i].Pod.Containers[k])
			}
		}
		holdDown(t, what+" of all, and Host", s, cktwo.State{}, false)
		all.Pods = append(all.Pods, s.Pods...)
	}
	holdDown(t, "all strays together", all, cktwo.State{}, false)
	p := spec.Pod{Name: "web", Containers: []spec.Container{{Name: "c", Image: "nginx"}}}
	holdDown(t, "a pod without defaults", ckthree.State{Pods: []ckthree.Pod{{File: "a", Pod: p}}}, cktwo.State{}, false)
	holdDown(t, "a pod with its defaults", ckthree.State{Pods: []ckthree.Pod{{File: "a", Pod: p.Default()}}},
		cktwo.State{Pods: []cktwo.Pod{{File: "a", Name: "web", Namespace: "default", Grace: 30, Containers: []cktwo.Container{{Name: "c", Image: "nginx"}}}}}, true)
}

// holdLoose holds that a state is made of none.
func holdLoose(t *testing.T, what string, s ckthree.State) {
	t.Helper()
	if was, ok := upgrade.Down(s); ok || was.Seq != 0 || len(was.Pods) != 0 {
		t.Fatalf("%s: Down answers %d pods and %t", what, len(was.Pods), ok)
	}
}

// P20.2: what version 2 has a place for is changed as it may be there, and what was is that.
func TestDownOfOthers(t *testing.T) {
	for i, p := range plainTwo().Pods {
		for _, do := range []func(p *ckthree.Pod, q *cktwo.Pod){
			func(p *ckthree.Pod, q *cktwo.Pod) { p.File, q.File = "", "" },
			func(p *ckthree.Pod, q *cktwo.Pod) { p.File, q.File = "\xff", "\xff" },
			func(p *ckthree.Pod, q *cktwo.Pod) { p.Pod.Name, q.Name = "", "" },
			func(p *ckthree.Pod, q *cktwo.Pod) { p.Pod.Namespace, q.Namespace = "A", "A" },
			func(p *ckthree.Pod, q *cktwo.Pod) { p.Pod.Restart, q.Restart = 255, 255 },
			func(p *ckthree.Pod, q *cktwo.Pod) { p.Pod.Restart, q.Restart = 3, 3 },
			func(p *ckthree.Pod, q *cktwo.Pod) { p.Pod.Grace, q.Grace = 65535, 65535 },
			func(p *ckthree.Pod, q *cktwo.Pod) { p.Pod.Grace, q.Grace = 0, 0 },
			func(p *ckthree.Pod, q *cktwo.Pod) { p.Pod.Containers, q.Containers = nil, nil },
			func(p *ckthree.Pod, q *cktwo.Pod) { slices.Reverse(p.Pod.Containers); slices.Reverse(q.Containers) },
			func(p *ckthree.Pod, q *cktwo.Pod) {
				p.Pod.Containers = slices.Repeat(p.Pod.Containers, 20)
				q.Containers = slices.Repeat(q.Containers, 20)
			},
			func(p *ckthree.Pod, q *cktwo.Pod) { *p, *q = ckthree.Pod{}, cktwo.Pod{} },
		} {
			s, want := threeOf(plainTwo()), plainTwo()
			do(&s.Pods[i], &want.Pods[i])
			holdDown(t, fmt.Sprint("pod ", i), s, want, true)
		}
		for k := range p.Containers {
			for _, do := range []func(c *spec.Container, d *cktwo.Container){
				func(c *spec.Container, d *cktwo.Container) { c.Name, d.Name = "", "" },
				func(c *spec.Container, d *cktwo.Container) { c.Image, d.Image = "\xff", "\xff" },
				func(c *spec.Container, d *cktwo.Container) { c.Name, d.Name = c.Image, d.Image },
			} {
				s, want := threeOf(plainTwo()), plainTwo()
				do(&s.Pods[i].Pod.Containers[k], &want.Pods[i].Containers[k])
				holdDown(t, fmt.Sprint("container ", k, " of pod ", i), s, want, true)
			}
		}
	}
}

// unlike holds that of each two states, which have a change each, what is made is unlike.
func unlike[A, B any](t *testing.T, what string, plain func() A, changes []func(s *A), made func(s A) B, alike func(s, t B) bool) {
	t.Helper()
	var was []A
	var l []B
	for _, do := range changes {
		s := plain()
		do(&s)
		was, l = append(was, s), append(l, made(s))
	}
	for i := range l {
		for k := range l {
			if same(was[i], was[k], false) != (i == k) {
				t.Fatalf("%s: the changes %d and %d are one", what, i, k)
			}
			if alike(l[i], l[k]) != (i == k) || same(l[i], l[k], false) != (i == k) {
				t.Fatalf("%s: of the states %d and %d what is made isn't unlike, or isn't alike", what, i, k)
			}
		}
	}
}

// P20.3: of two states that differ by one thing, or by two, what is made is unlike.
func TestUnlike(t *testing.T) {
	unlike(t, "Two", plainOne, oneChanges(), upgrade.Two, cktwo.State.Same)
	unlike(t, "Both", plainOne, oneChanges(), upgrade.Both, ckthree.State.Same)
	unlike(t, "Three", plainTwo, twoChanges(), upgrade.Three, ckthree.State.Same)
	for i, do := range twoChanges() {
		s := plainTwo()
		do(&s)
		holdTwo(t, fmt.Sprint("the change ", i), s)
	}
}

// swap has two items of a list change places.
func swap[T any](l []T, i, k int) { l[i], l[k] = l[k], l[i] }

// oneChanges change a thing of the plain state each, to something that no other one changes it to.
func oneChanges() []func(s *ckone.State) {
	l := []func(s *ckone.State){
		func(s *ckone.State) {},
		func(s *ckone.State) { s.Seq = 0 },
		func(s *ckone.State) { s.Seq++ },
		func(s *ckone.State) { s.Seq = math.MaxUint32 },
		func(s *ckone.State) { s.Pods = nil },
		func(s *ckone.State) { s.Pods = s.Pods[:1] },
		func(s *ckone.State) { s.Pods = s.Pods[:2] },
		func(s *ckone.State) { s.Pods = s.Pods[1:] },
		func(s *ckone.State) { s.Pods = append(s.Pods, ckone.Pod{}) },
		func(s *ckone.State) { s.Pods = append(s.Pods, s.Pods[0]) },
		func(s *ckone.State) { s.Pods = append(s.Pods, s.Pods[2]) },
		func(s *ckone.State) { slices.Reverse(s.Pods) },
		func(s *ckone.State) { swap(s.Pods, 0, 1) },
		func(s *ckone.State) { swap(s.Pods, 1, 2) },
	}
	for i := range plainOne().Pods {
		l = append(l,
			func(s *ckone.State) { s.Pods[i].File += "a" },
			func(s *ckone.State) { s.Pods[i].File = "" },
			func(s *ckone.State) { s.Pods[i].Name += "a" },
			func(s *ckone.State) { s.Pods[i].Name = "" },
			func(s *ckone.State) { s.Pods[i].Name = "main" },
			func(s *ckone.State) { s.Pods[i].Image += "a" },
			func(s *ckone.State) { s.Pods[i].Image = "" },
			func(s *ckone.State) { s.Pods[i].Image = "main" },
			func(s *ckone.State) { s.Pods[i].Name, s.Pods[i].Image = s.Pods[i].Image, s.Pods[i].Name },
			func(s *ckone.State) { s.Pods[i].Restart += 4 },
			func(s *ckone.State) { s.Pods[i].Restart += 128 },
			func(s *ckone.State) { s.Pods[i] = ckone.Pod{} })
	}
	return l
}

// twoChanges change a thing of the plain state each, likewise.
func twoChanges() []func(s *cktwo.State) {
	l := []func(s *cktwo.State){
		func(s *cktwo.State) {},
		func(s *cktwo.State) { s.Seq = 0 },
		func(s *cktwo.State) { s.Seq++ },
		func(s *cktwo.State) { s.Seq += 1 << 32 },
		func(s *cktwo.State) { s.Seq += 1 << 63 },
		func(s *cktwo.State) { s.Pods = nil },
		func(s *cktwo.State) { s.Pods = s.Pods[:1] },
		func(s *cktwo.State) { s.Pods = s.Pods[:3] },
		func(s *cktwo.State) { s.Pods = s.Pods[1:] },
		func(s *cktwo.State) { s.Pods = append(s.Pods, cktwo.Pod{}) },
		func(s *cktwo.State) { s.Pods = append(s.Pods, s.Pods[3]) },
		func(s *cktwo.State) { slices.Reverse(s.Pods) },
		func(s *cktwo.State) { swap(s.Pods, 0, 1) },
		func(s *cktwo.State) { swap(s.Pods, 2, 3) },
		func(s *cktwo.State) {
			s.Pods[0].Containers, s.Pods[1].Containers = s.Pods[1].Containers, s.Pods[0].Containers
		},
	}
	for i, p := range plainTwo().Pods {
		l = append(l,
			func(s *cktwo.State) { s.Pods[i].File += "a" },
			func(s *cktwo.State) { s.Pods[i].File = "" },
			func(s *cktwo.State) { s.Pods[i].Name += "a" },
			func(s *cktwo.State) { s.Pods[i].Name, s.Pods[i].Namespace = s.Pods[i].Namespace, s.Pods[i].Name },
			func(s *cktwo.State) { s.Pods[i].Namespace += "a" },
			func(s *cktwo.State) { s.Pods[i].Namespace = "" },
			func(s *cktwo.State) { s.Pods[i].Restart += 4 },
			func(s *cktwo.State) { s.Pods[i].Restart += 128 },
			func(s *cktwo.State) { s.Pods[i].Grace = 0 },
			func(s *cktwo.State) { s.Pods[i].Grace += 256 },
			func(s *cktwo.State) { s.Pods[i].Grace = 65535 },
			func(s *cktwo.State) { s.Pods[i].Containers = nil },
			func(s *cktwo.State) { s.Pods[i].Containers = append(s.Pods[i].Containers, cktwo.Container{}) },
			func(s *cktwo.State) { s.Pods[i].Containers = append(s.Pods[i].Containers, s.Pods[i].Containers[0]) },
			func(s *cktwo.State) { s.Pods[i] = cktwo.Pod{} })
		if len(p.Containers) > 2 {
			l = append(l,
				func(s *cktwo.State) { s.Pods[i].Containers = s.Pods[i].Containers[:1] },
				func(s *cktwo.State) { s.Pods[i].Containers = s.Pods[i].Containers[1:] },
				func(s *cktwo.State) { s.Pods[i].Containers = s.Pods[i].Containers[:2] },
				func(s *cktwo.State) { swap(s.Pods[i].Containers, 0, 1) },
				func(s *cktwo.State) { swap(s.Pods[i].Containers, 1, 2) })
		}
		for k := range p.Containers {
			at := func(s *cktwo.State) *cktwo.Container { return &s.Pods[i].Containers[k] }
			l = append(l,
				func(s *cktwo.State) { at(s).Name += "a" },
				func(s *cktwo.State) { at(s).Name = "" },
				func(s *cktwo.State) { at(s).Image += "a" },
				func(s *cktwo.State) { at(s).Image = "" },
				func(s *cktwo.State) { at(s).Name, at(s).Image = at(s).Image, at(s).Name })
		}
	}
	return l
}
