package spec_test

import (
	"math/rand"
	"slices"
	"strings"
	"testing"
	"unicode/utf8"

	"bosun/api"
	"bosun/dns"
	"bosun/spec"
)

// faults are what is wrong with a pod, by the chapter's words, in the order of its section 'Errors'.
type faults struct{ l []api.Errno }

// note notes an error, if something is wrong.
func (f *faults) note(wrong bool, e api.Errno) {
	if wrong {
		f.l = append(f.l, e)
	}
}

// text notes what is wrong with a text.
func (f *faults) text(s string) {
	f.note(!utf8.ValidString(s), api.ErrText)
	f.note(len(s) > 4096, api.ErrLong)
}

// outside says whether a number isn't from 1 to most.
func outside(n, most int64) bool { return n < 1 || n > most }

// container notes what is wrong with a container, the others ahead.
func (f *faults) container(c spec.Container, ahead []spec.Container) {
	f.note(!dns.Label(c.Name), api.ErrName)
	for _, x := range ahead {
		f.note(x.Name == c.Name, api.ErrTwice)
	}
	f.note(!dns.Image(c.Image), api.ErrForm)
	f.note(len(c.Command) > 16 || len(c.Ports) > 16 || len(c.Env) > 16, api.ErrFull)
	f.note(outside(c.Cpu, 64000) || outside(c.Memory, 1048576), api.ErrRange)
	for _, s := range c.Command {
		f.text(s)
	}
	for i, p := range c.Ports {
		f.note(outside(p.Number, 65535) || p.Proto != 0 && p.Proto != 1, api.ErrRange)
		for _, x := range c.Ports[:i] {
			f.note(x.Number == p.Number && x.Proto == p.Proto, api.ErrTwice)
		}
	}
	for i, v := range c.Env {
		f.note(!dns.Variable(v.Name), api.ErrName)
		for _, x := range c.Env[:i] {
			f.note(x.Name == v.Name, api.ErrTwice)
		}
		f.text(v.Value)
	}
}

// modelCheck is what Check answers, by the chapter's words.
func modelCheck(p spec.Pod) api.Errno {
	var f faults
	f.note(!dns.Name(p.Name) || !dns.Label(p.Namespace), api.ErrName)
	f.note(p.Restart != 0 && p.Restart != 1 && p.Restart != 2 || outside(p.Grace, 3600), api.ErrRange)
	f.note(len(p.Containers) == 0, api.ErrNone)
	f.note(len(p.Containers) > 16, api.ErrFull)
	for i, c := range p.Containers {
		f.container(c, p.Containers[:i])
	}
	return append(f.l, api.OK)[0]
}

// modelDefault is the pod with its defaults, by the chapter's words.
func modelDefault(p spec.Pod) spec.Pod {
	p = copyOf(p)
	if p.Namespace == "" {
		p.Namespace = "default"
	}
	if p.Grace == 0 {
		p.Grace = 30
	}
	for i := range p.Containers {
		if p.Containers[i].Cpu == 0 {
			p.Containers[i].Cpu = 100
		}
		if p.Containers[i].Memory == 0 {
			p.Containers[i].Memory = 64
		}
	}
	return p
}

// maker makes random pods, of which one in so many parts is odd.
type maker struct {
	*rand.Rand
	odd int
}

// pick is one of the things that may be, or, if it is to be odd, one of the others.
func pick[T any](m maker, may, others []T) T {
	if m.Intn(m.odd) == 0 {
		may = others
	}
	return may[m.Intn(len(may))]
}

// some are from none to most items, or, if there are to be odd many, 17.
func some[T any](m maker, most int, item func() T) []T {
	n := m.Intn(most + 1)
	if m.Intn(4*m.odd) == 0 {
		n = 17
	}
	l := make([]T, n)
	for i := range l {
		l[i] = item()
	}
	return l
}

// long is as long as a text may be, but for one byte.
var long = strings.Repeat("x", 4095)

func (m maker) text() string {
	return pick(m, []string{"", "a", "é", long, long + "x"}, []string{"\xff", long + "é", long + "\xff"})
}

func (m maker) port() spec.Port {
	return spec.Port{
		Number: pick(m, []int64{1, 2, 80, 8080, 443, 5000, 65534, 65535}, []int64{0, -1, 65536}),
		Proto:  pick(m, []spec.Proto{0, 1}, []spec.Proto{-1, 2}),
	}
}

func (m maker) env() spec.Env {
	name := string(rune('A'+m.Intn(26))) + pick(m, []string{"", "1", "_"}, []string{"-", "."})
	return spec.Env{Name: name, Value: m.text()}
}

func (m maker) container() spec.Container {
	name := string(rune('a'+m.Intn(26))) + pick(m, []string{"", "-1", "1"}, []string{"-", "."})
	return spec.Container{
		Name:    name,
		Image:   pick(m, []string{"nginx", "a:1"}, []string{"", "A"}),
		Command: some(m, 3, m.text),
		Ports:   some(m, 4, m.port),
		Cpu:     pick(m, []int64{1, 100, 64000}, []int64{-1, 0, 64001}),
		Memory:  pick(m, []int64{1, 64, 1048576}, []int64{-1, 0, 1048577}),
		Env:     some(m, 3, m.env),
	}
}

func (m maker) pod() spec.Pod {
	return spec.Pod{
		Name:       pick(m, []string{"a", "a.b"}, []string{"", "A"}),
		Namespace:  pick(m, []string{"a", "b"}, []string{"", "a.b"}),
		Restart:    pick(m, []spec.Restart{0, 1, 2}, []spec.Restart{-1, 3}),
		Grace:      pick(m, []int64{1, 30, 3600}, []int64{-1, 0, 3601}),
		Host:       m.Intn(2) == 0,
		Containers: some(m, 3, m.container),
	}
}

// P14.1, P14.3: random pods, from those in which much is odd to those in which almost nothing is, against the model.
func TestAgainstModel(t *testing.T) {
	seen := map[api.Errno]int{}
	for n := range 20000 {
		m := maker{rand.New(rand.NewSource(int64(n))), 4 << (n % 9)}
		p := m.pod()
		before := copyOf(p)
		want := modelCheck(p)
		seen[want]++
		if e := p.Check(); e != want {
			t.Fatalf("pod %d, %.2000q: Check answers %v, not %v", n, textsOf(p), e, want)
		}
		d := p.Default()
		if !equal(d, modelDefault(p)) || !equal(d.Default(), d) || !equal(p, before) {
			t.Fatalf("pod %d: Default is %.2000q, of %.2000q", n, textsOf(d), textsOf(p))
		}
		if d.Same(p) != equal(d, p) || !p.Same(before) {
			t.Fatalf("pod %d: Same of a pod and its Default is %t", n, d.Same(p))
		}
		if want == api.OK && !d.Same(p) {
			t.Fatalf("pod %d: defaults change a pod that may be", n)
		}
	}
	for _, e := range []api.Errno{api.OK, api.ErrName, api.ErrRange, api.ErrNone, api.ErrFull, api.ErrTwice, api.ErrForm, api.ErrText, api.ErrLong} {
		if seen[e] < 200 {
			t.Errorf("only %d pods were %v", seen[e], e)
		}
	}
}

// P14.1: random pods, of few kinds of parts, so that many are alike, held against each other as reflect does.
func TestSameAgainstModel(t *testing.T) {
	m := maker{rand.New(rand.NewSource(7)), 1 << 30}
	alike := 0
	for range 20000 {
		p := m.pod()
		q := copyOf(p)
		if m.Intn(2) == 0 && len(q.Containers) > 0 {
			c := &q.Containers[m.Intn(len(q.Containers))]
			d := m.container()
			switch m.Intn(7) {
			case 0:
				c.Name = d.Name
			case 1:
				c.Image = d.Image
			case 2:
				c.Command = d.Command
			case 3:
				c.Ports = slices.Clone(c.Ports)
				m.Shuffle(len(c.Ports), func(i, j int) { swap(c.Ports, i, j) })
			case 4:
				c.Cpu = d.Cpu
			case 5:
				c.Memory = d.Memory
			default:
				c.Env = d.Env
			}
		}
		want := equal(p, q)
		if want {
			alike++
		}
		holdSame(t, "two pods", p, q, want)
		q = m.pod()
		holdSame(t, "two other pods", p, q, equal(p, q))
	}
	if alike < 1000 || alike > 19000 {
		t.Errorf("%d pods of 20000 were alike", alike)
	}
}
