package spec_test

import (
	"math"
	"slices"
	"strconv"
	"testing"

	"bosun/spec"
)

// holdSame holds Same both ways round.
func holdSame(t *testing.T, what string, p, q spec.Pod, want bool) {
	t.Helper()
	if p.Same(q) != want || q.Same(p) != want {
		t.Errorf("%s: Same is %t, and the other way round %t, not %t", what, p.Same(q), q.Same(p), want)
	}
}

// podChanges change a part of a pod each, to something that no other one changes it to.
func podChanges() []func(p *spec.Pod) {
	return []func(p *spec.Pod){
		func(p *spec.Pod) { p.Name = "web" },
		func(p *spec.Pod) { p.Name = "" },
		func(p *spec.Pod) { p.Name, p.Namespace = p.Namespace, p.Name },
		func(p *spec.Pod) { p.Namespace = "" },
		func(p *spec.Pod) { p.Namespace = "default" },
		func(p *spec.Pod) { p.Restart = spec.Always },
		func(p *spec.Pod) { p.Restart = -1 },
		func(p *spec.Pod) { p.Restart += 1 << 32 },
		func(p *spec.Pod) { p.Grace = 0 },
		func(p *spec.Pod) { p.Grace = 30 },
		func(p *spec.Pod) { p.Grace += 1 << 32 },
		func(p *spec.Pod) { p.Grace = math.MinInt64 },
		func(p *spec.Pod) { p.Host = false },
		func(p *spec.Pod) { p.Containers = nil },
		func(p *spec.Pod) { p.Containers = p.Containers[:1] },
		func(p *spec.Pod) { p.Containers = p.Containers[:2] },
		func(p *spec.Pod) { p.Containers = p.Containers[1:] },
		func(p *spec.Pod) { p.Containers = append(p.Containers, spec.Container{}) },
		func(p *spec.Pod) { p.Containers = append(p.Containers, full("third")) },
		func(p *spec.Pod) { swap(p.Containers, 0, 1) },
		func(p *spec.Pod) { swap(p.Containers, 1, 2) },
		func(p *spec.Pod) { slices.Reverse(p.Containers) },
		func(p *spec.Pod) { p.Containers[2] = p.Containers[1] },
	}
}

// containerChanges change a part of a container each, likewise.
func containerChanges() []func(c *spec.Container) {
	return []func(c *spec.Container){
		func(c *spec.Container) { c.Name = "other" },
		func(c *spec.Container) { c.Name = "" },
		func(c *spec.Container) { c.Name, c.Image = c.Image, c.Name },
		func(c *spec.Container) { c.Image = "nginx" },
		func(c *spec.Container) { c.Image += " " },
		func(c *spec.Container) { c.Command = nil },
		func(c *spec.Container) { c.Command = c.Command[:1] },
		func(c *spec.Container) { c.Command = append(c.Command, "") },
		func(c *spec.Container) { c.Command = append(c.Command, "-v") },
		func(c *spec.Container) { c.Command[0] = "Serve" },
		func(c *spec.Container) { c.Command[1] = "" },
		func(c *spec.Container) { c.Command = []string{"serve-v"} },
		func(c *spec.Container) { swap(c.Command, 0, 1) },
		func(c *spec.Container) { c.Ports = nil },
		func(c *spec.Container) { c.Ports = c.Ports[1:] },
		func(c *spec.Container) { c.Ports = append(c.Ports, spec.Port{}) },
		func(c *spec.Container) { c.Ports = append(c.Ports, c.Ports[1]) },
		func(c *spec.Container) { c.Ports[0].Number = 81 },
		func(c *spec.Container) { c.Ports[1].Number += 1 << 32 },
		func(c *spec.Container) { c.Ports[0].Proto = spec.UDP },
		func(c *spec.Container) { c.Ports[1].Proto = spec.TCP },
		func(c *spec.Container) { c.Ports[1].Proto += 1 << 32 },
		func(c *spec.Container) { swap(c.Ports, 0, 1) },
		func(c *spec.Container) { c.Cpu = 0 },
		func(c *spec.Container) { c.Cpu += 1 << 32 },
		func(c *spec.Container) { c.Cpu, c.Memory = c.Memory, c.Cpu },
		func(c *spec.Container) { c.Memory = 64 },
		func(c *spec.Container) { c.Memory += 1 << 32 },
		func(c *spec.Container) { c.Env = nil },
		func(c *spec.Container) { c.Env = c.Env[:1] },
		func(c *spec.Container) { c.Env = append(c.Env, spec.Env{}) },
		func(c *spec.Container) { c.Env[0].Name = "Home" },
		func(c *spec.Container) { c.Env[1].Name = "" },
		func(c *spec.Container) { c.Env[0].Value = "" },
		func(c *spec.Container) { c.Env[1].Value = "e" },
		func(c *spec.Container) { c.Env[0] = spec.Env{Name: c.Env[0].Value, Value: c.Env[0].Name} },
		func(c *spec.Container) { swap(c.Env, 0, 1) },
	}
}

// swap has two items of a list change places.
func swap[T any](l []T, i, j int) { l[i], l[j] = l[j], l[i] }

// P14.1: two pods are alike if all their parts are, and unlike if one part is.
func TestSame(t *testing.T) {
	changes := podChanges()
	for i := range 3 {
		for _, do := range containerChanges() {
			changes = append(changes, func(p *spec.Pod) { do(&p.Containers[i]) })
		}
	}
	pods := []spec.Pod{plain()}
	for _, do := range changes {
		p := plain()
		do(&p)
		pods = append(pods, p)
	}
	for i, p := range pods {
		for j, q := range pods {
			holdSame(t, "the pods "+strconv.Itoa(i)+" and "+strconv.Itoa(j), p, copyOf(q), i == j)
		}
	}
	holdSame(t, "zero pods", spec.Pod{}, spec.Pod{}, true)
	holdSame(t, "a zero pod, and another one", spec.Pod{}, plain(), false)
	holdSame(t, "a pod without defaults, and with them", spec.Pod{}, spec.Pod{}.Default(), false)
}

// P14.1, R4: lists that are empty, and nil ones, are alike.
func TestSameOfEmptyLists(t *testing.T) {
	some, none := podOf(small("a"), small("b")), podOf(small("a"), small("b"))
	for i := range some.Containers {
		c := &some.Containers[i]
		c.Command, c.Ports, c.Env = []string{}, []spec.Port{}, make([]spec.Env, 0, 3)
	}
	holdSame(t, "empty lists, and nil ones", some, none, true)
	holdSame(t, "an empty list of containers, and a nil one", podOf(), podOf([]spec.Container{}...), true)
	p, q := podOf(), podOf()
	p.Containers, q.Containers = []spec.Container{}, nil
	holdSame(t, "an empty list of containers, and a nil one", p, q, true)
	if some.Check() != none.Check() || !some.Default().Same(none.Default()) {
		t.Error("an empty list is another one than a nil one")
	}
}

// P14.1: pods that share their lists, or a part of them, are compared as others are.
func TestSameOfSharedLists(t *testing.T) {
	p := plain()
	holdSame(t, "a pod, and itself", p, p, true)
	q := p
	q.Containers = p.Containers[:2]
	holdSame(t, "a pod, and a piece of it", p, q, false)
	q.Containers = append(q.Containers[:2:2], full("third"))
	holdSame(t, "a pod, and one with a container of its own", p, q, true)
}
