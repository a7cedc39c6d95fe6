package spec_test

import (
	"math"
	"reflect"
	"slices"
	"testing"
	"unsafe"

	"bosun/api"
	"bosun/spec"
)

// copyOf is a copy of a pod, in memory of its own but for its texts.
func copyOf(p spec.Pod) spec.Pod {
	p.Containers = slices.Clone(p.Containers)
	for i := range p.Containers {
		c := &p.Containers[i]
		c.Command, c.Ports, c.Env = slices.Clone(c.Command), slices.Clone(c.Ports), slices.Clone(c.Env)
	}
	return p
}

// bare is a copy of a pod whose empty lists are nil, so that pods may be held against each other by reflect.
func bare(p spec.Pod) spec.Pod {
	p = copyOf(p)
	if len(p.Containers) == 0 {
		p.Containers = nil
	}
	for i := range p.Containers {
		c := &p.Containers[i]
		if len(c.Command) == 0 {
			c.Command = nil
		}
		if len(c.Ports) == 0 {
			c.Ports = nil
		}
		if len(c.Env) == 0 {
			c.Env = nil
		}
	}
	return p
}

// equal says whether pods are alike in all their parts, as reflect sees them.
func equal(p, q spec.Pod) bool { return reflect.DeepEqual(bare(p), bare(q)) }

// holdDefault holds what Default answers, that the pod is as it was, and P14.3.
func holdDefault(t *testing.T, what string, p, want spec.Pod) {
	t.Helper()
	before := copyOf(p)
	d := p.Default()
	if !equal(d, want) {
		t.Errorf("%s: Default is %+v, not %+v", what, d, want)
	}
	if !equal(p, before) {
		t.Errorf("%s: the pod became %+v", what, p)
	}
	if !equal(d.Default(), d) {
		t.Errorf("%s: given once more, defaults change it to %+v", what, d.Default())
	}
	if p.Check() == api.OK && !equal(d, p) {
		t.Errorf("%s: defaults change a pod that may be to %+v", what, d)
	}
}

// P14.1: each default alone, all of them together, and none.
func TestDefaults(t *testing.T) {
	type change = func(p *spec.Pod)
	in := func(i int, do func(c *spec.Container)) change { return func(p *spec.Pod) { do(&p.Containers[i]) } }
	changes := []struct{ empty, given change }{
		{func(p *spec.Pod) { p.Namespace = "" }, func(p *spec.Pod) { p.Namespace = "default" }},
		{func(p *spec.Pod) { p.Grace = 0 }, func(p *spec.Pod) { p.Grace = 30 }},
	}
	for i := range 3 {
		changes = append(changes, struct{ empty, given change }{
			in(i, func(c *spec.Container) { c.Cpu = 0 }), in(i, func(c *spec.Container) { c.Cpu = 100 }),
		}, struct{ empty, given change }{
			in(i, func(c *spec.Container) { c.Memory = 0 }), in(i, func(c *spec.Container) { c.Memory = 64 }),
		})
	}
	for set := range 1 << len(changes) {
		p, want := plain(), plain()
		for i, c := range changes {
			if set>>i&1 == 1 {
				c.empty(&p)
				c.given(&want)
			}
		}
		holdDefault(t, "a pod", p, want)
	}
}

// P14.1: what has no default, and what is given, stays as it is, whatever it is.
func TestGivenStays(t *testing.T) {
	holdDefault(t, "the zero pod", spec.Pod{}, spec.Pod{Namespace: "default", Grace: 30})
	holdDefault(t, "the zero container", spec.Pod{Containers: make([]spec.Container, 2)}, spec.Pod{
		Namespace: "default", Grace: 30, Containers: []spec.Container{{Cpu: 100, Memory: 64}, {Cpu: 100, Memory: 64}},
	})
	for _, n := range []int64{-1, -30, 1, 29, 31, 63, 65, 99, 101, 1 << 32, math.MinInt64, math.MaxInt64} {
		for _, s := range []string{"x", " ", "\x00", "-", "Default", "\xff"} {
			c := spec.Container{Name: s, Image: s, Command: []string{s, "", s}, Ports: []spec.Port{{n, spec.Proto(n)}, {0, 0}, {n, 5}}, Cpu: n, Memory: n, Env: []spec.Env{{s, s}, {"", ""}, {s, s}}}
			p := spec.Pod{Name: s, Namespace: s, Restart: spec.Restart(n), Grace: n, Host: n < 0, Containers: []spec.Container{c, c}}
			holdDefault(t, "a pod that is odd", p, p)
		}
	}
	for _, host := range []bool{false, true} {
		for r := spec.Restart(-1); r < 5; r++ {
			p := plain()
			p.Host, p.Restart = host, r
			holdDefault(t, "a Host, and a Restart", p, p)
		}
	}
}

// P14.3: a pod that may be is itself with its defaults.
func TestDefaultOfWhatMayBe(t *testing.T) {
	least := spec.Pod{Name: "a", Namespace: "b", Grace: 1, Containers: []spec.Container{{Name: "c", Image: "d", Cpu: 1, Memory: 1}}}
	for _, p := range []spec.Pod{least, plain(), podOf(small("c"))} {
		holdCheck(t, "a pod", p, api.OK)
		if d := p.Default(); !equal(d, p) || !d.Same(p) || d.Check() != api.OK {
			t.Errorf("Default of %+v is %+v", p, d)
		}
	}
}

// roomy is the plain pod, whose lists have room behind their ends.
func roomy() spec.Pod {
	p := plain()
	p.Containers = slices.Grow(p.Containers, 4)
	for i := range p.Containers {
		c := &p.Containers[i]
		c.Command, c.Ports, c.Env = slices.Grow(c.Command, 4), slices.Grow(c.Ports, 4), slices.Grow(c.Env, 4)
	}
	return p
}

// overwrite writes into all lists of a pod, and behind their ends.
func overwrite(p *spec.Pod) {
	for i := range p.Containers {
		c := &p.Containers[i]
		c.Command[0], c.Ports[0], c.Env[0] = "other", spec.Port{Number: 9}, spec.Env{Name: "OTHER"}
		_ = append(c.Command, "more")
		_ = append(c.Ports, spec.Port{Number: 10})
		_ = append(c.Env, spec.Env{Name: "MORE"})
		*c = small("other")
	}
	_ = append(p.Containers, small("more"))
}

// all is a pod, and what stands behind the ends of its lists.
func all(p spec.Pod) spec.Pod {
	p.Containers = behind(p.Containers)
	for i := range p.Containers {
		c := &p.Containers[i]
		c.Command, c.Ports, c.Env = behind(c.Command), behind(c.Ports), behind(c.Env)
	}
	return p
}

// behind is a copy of what stands in a list, and behind its end.
func behind[T any](l []T) []T { return slices.Clone(l[:cap(l)]) }

// R3: what Default answers is in memory of its own: neither the pod nor its answer changes with the other one, and what
// stands behind the ends of the pod's lists stays as it is.
func TestMemoryOfItsOwn(t *testing.T) {
	p := roomy()
	before := all(p)
	d := p.Default()
	overwrite(&d)
	if !equal(p, plain()) || !reflect.DeepEqual(all(p), before) {
		t.Errorf("with its answer the pod became %+v", all(p))
	}
	d = p.Default()
	overwrite(&p)
	if !equal(d, plain()) {
		t.Errorf("with the pod its answer became %+v", d)
	}
	p = roomy()
	d, other := p.Default(), p.Default()
	overwrite(&d)
	if !equal(other, plain()) {
		t.Errorf("with one answer the other one became %+v", other)
	}
}

// R3: lists of the pod that are empty, but have room, aren't written into by way of the answer; nor are two lists of
// one answer one.
func TestRoomOfEmptyLists(t *testing.T) {
	c := small("c")
	c.Command, c.Ports, c.Env = make([]string, 0, 4), make([]spec.Port, 0, 4), make([]spec.Env, 0, 4)
	p := podOf(c, c)
	d := p.Default()
	for i := range d.Containers {
		x := &d.Containers[i]
		x.Command = append(x.Command, "more"+x.Name)
		x.Ports = append(x.Ports, spec.Port{Number: int64(i) + 1})
		x.Env = append(x.Env, spec.Env{Name: "MORE"})
	}
	if !slices.Equal(behind(c.Command), make([]string, 4)) || !slices.Equal(behind(c.Ports), make([]spec.Port, 4)) || !slices.Equal(behind(c.Env), make([]spec.Env, 4)) {
		t.Error("what stands behind the end of an empty list was changed")
	}
	if d.Containers[0].Ports[0].Number != 1 || d.Containers[1].Ports[0].Number != 2 {
		t.Error("two containers that shared a list share it in the answer, too")
	}
	q := spec.Pod{Containers: make([]spec.Container, 0, 2)}
	_ = append(q.Default().Containers, c)
	if behind(q.Containers)[0].Name != "" {
		t.Error("what stands behind the end of an empty list of containers was changed")
	}
}

// textsOf are all texts of a pod.
func textsOf(p spec.Pod) []string {
	l := []string{p.Name, p.Namespace}
	for _, c := range p.Containers {
		l = append(append(l, c.Name, c.Image), c.Command...)
		for _, v := range c.Env {
			l = append(l, v.Name, v.Value)
		}
	}
	return l
}

// R3: memory of its own have the texts, too.
func TestTextsOfItsOwn(t *testing.T) {
	p := plain()
	of := textsOf(p)
	for i, s := range textsOf(p.Default()) {
		if unsafe.StringData(s) == unsafe.StringData(of[i]) {
			t.Errorf("the text %q of the answer stands where that of the pod stands", s)
		}
	}
}

// R3: Check, Same and Default change nothing, nor what stands behind the ends of lists.
func TestNothingIsChanged(t *testing.T) {
	p, q := roomy(), roomy()
	p.Containers[0].Cpu, p.Grace = 0, 0
	before := all(p)
	p.Check()
	q.Check()
	p.Same(q)
	q.Same(p)
	p.Default()
	if !reflect.DeepEqual(all(p), before) || !equal(q, plain()) {
		t.Error("a pod was changed")
	}
}
