package ckthree_test

import (
	"math/rand"
	"strings"
	"testing"
	"unicode/utf8"

	"bosun/api"
	"bosun/ckthree"
	"bosun/dns"
	"bosun/spec"
)

// faults are what is wrong with a state, by the words of the chapter, and of that of layer 14, in their order.
type faults struct{ l []api.Errno }

// note notes an error, if something is wrong.
func (f *faults) note(wrong bool, e api.Errno) {
	if wrong {
		f.l = append(f.l, e)
	}
}

// text notes what is wrong with a text.
func (f *faults) text(s string) {
	f.note(!utf8.ValidString(s), api.ErrText)
	f.note(len(s) > 4096, api.ErrLong)
}

// outside says whether a number isn't from 1 to most.
func outside(n, most int64) bool { return n < 1 || n > most }

// container notes what is wrong with a container, the others ahead.
func (f *faults) container(c spec.Container, ahead []spec.Container) {
	f.note(!dns.Label(c.Name), api.ErrName)
	for _, x := range ahead {
		f.note(x.Name == c.Name, api.ErrTwice)
	}
	f.note(!dns.Image(c.Image), api.ErrForm)
	f.note(len(c.Command) > 16 || len(c.Ports) > 16 || len(c.Env) > 16, api.ErrFull)
	f.note(outside(c.Cpu, 64000) || outside(c.Memory, 1048576), api.ErrRange)
	for _, s := range c.Command {
		f.text(s)
	}
	for i, p := range c.Ports {
		f.note(outside(p.Number, 65535) || p.Proto != 0 && p.Proto != 1, api.ErrRange)
		for _, x := range c.Ports[:i] {
			f.note(x == p, api.ErrTwice)
		}
	}
	for i, v := range c.Env {
		f.note(!dns.Variable(v.Name), api.ErrName)
		for _, x := range c.Env[:i] {
			f.note(x.Name == v.Name, api.ErrTwice)
		}
		f.text(v.Value)
	}
}

// pod notes what is wrong with a pod.
func (f *faults) pod(p spec.Pod) {
	f.note(!dns.Name(p.Name) || !dns.Label(p.Namespace), api.ErrName)
	f.note(p.Restart != 0 && p.Restart != 1 && p.Restart != 2 || outside(p.Grace, 3600), api.ErrRange)
	f.note(len(p.Containers) == 0, api.ErrNone)
	f.note(len(p.Containers) > 16, api.ErrFull)
	for i, c := range p.Containers {
		f.container(c, p.Containers[:i])
	}
}

// modelCheck is what is wrong with a state.
func modelCheck(s ckthree.State) api.Errno {
	var f faults
	f.note(len(s.Pods) > 1024, api.ErrFull)
	for i, p := range s.Pods {
		f.note(len(p.File) < 1 || len(p.File) > 64 || strings.Trim(p.File, "abcdefghijklmnopqrstuvwxyz0123456789._-/") != "", api.ErrName)
		f.note(i > 0 && strings.Compare(s.Pods[max(i, 1)-1].File, p.File) >= 0, api.ErrForm)
		f.pod(p.Pod)
	}
	return append(f.l, api.OK)[0]
}

// cursor goes over bytes from the left, till something is wrong.
type cursor struct {
	b  string
	at int
	e  api.Errno
}

// cut is the next n bytes; noughts, if there is an error.
func (c *cursor) cut(n int) string {
	if c.e == api.OK && c.at+n > len(c.b) {
		c.e = api.ErrShort
	}
	if c.e != api.OK {
		return strings.Repeat("\x00", n)
	}
	c.at += n
	return c.b[c.at-n : c.at]
}

// number is the number of the next n bytes; of more than most it is the error e.
func (c *cursor) number(n int, most int64, e api.Errno) int64 {
	v := int64(0)
	for _, x := range []byte(c.cut(n)) {
		v = v*256 + int64(x)
	}
	if v > most {
		c.e, v = e, 0
	}
	return v
}

// plain is the number of the next n bytes, whatever it is.
func (c *cursor) plain(n int) int64 { return c.number(n, 1<<62, api.OK) }

// text is the text that comes next.
func (c *cursor) text() string { return c.cut(int(c.number(2, 4096, api.ErrLong))) }

// items are as many items as the next n bytes say.
func items[T any](c *cursor, n int, most int64, item func() T) []T {
	var l []T
	for range c.number(n, most, api.ErrFull) {
		if c.e == api.OK {
			l = append(l, item())
		}
	}
	return l
}

// container is the container that comes next.
func (c *cursor) container() spec.Container {
	var x spec.Container
	x.Name = c.text()
	x.Image = c.text()
	x.Command = items(c, 1, 16, c.text)
	x.Ports = items(c, 1, 16, func() (p spec.Port) {
		p.Number = c.plain(2)
		p.Proto = spec.Proto(c.plain(1))
		return p
	})
	x.Cpu = c.plain(4)
	x.Memory = c.plain(4)
	x.Env = items(c, 1, 16, func() (v spec.Env) {
		v.Name = c.text()
		v.Value = c.text()
		return v
	})
	return x
}

// pod is the pod that comes next.
func (c *cursor) pod() ckthree.Pod {
	var p ckthree.Pod
	p.File = c.text()
	p.Pod.Name = c.text()
	p.Pod.Namespace = c.text()
	p.Pod.Restart = spec.Restart(c.plain(1))
	p.Pod.Grace = c.plain(2)
	p.Pod.Host = c.number(1, 1, api.ErrForm) == 1
	p.Pod.Containers = items(c, 1, 16, c.container)
	return p
}

// modelDecode is the state of bytes, by the chapter's words.
func modelDecode(b string) (ckthree.State, api.Errno) {
	c := &cursor{b: b}
	var s ckthree.State
	s.Seq = uint64(c.plain(4)) << 32
	s.Seq += uint64(c.plain(4))
	s.Pods = items(c, 2, 1024, c.pod)
	if c.e == api.OK && c.at < len(b) {
		c.e = api.ErrForm
	}
	if c.e == api.OK {
		c.e = modelCheck(s)
	}
	if c.e != api.OK {
		return ckthree.State{}, c.e
	}
	return s, api.OK
}

// maker makes random states, of which one part in so many is odd.
type maker struct {
	*rand.Rand
	odd int
}

// pick is one of the things that may be, or, if it is to be odd, one of the others.
func pick[T any](m maker, may, others []T) T {
	if m.Intn(m.odd) == 0 {
		may = others
	}
	return may[m.Intn(len(may))]
}

// some are some items, or, if there are to be odd many, 16 or 17.
func some[T any](m maker, many []int, item func(i int) T) []T {
	var l []T
	if m.Intn(4*m.odd) == 0 {
		many = []int{16, 17}
	}
	for i := range many[m.Intn(len(many))] {
		l = append(l, item(i))
	}
	return l
}

// long is as long as a text may be, but for one byte; oddTexts are as long as may be, too long, and no UTF-8.
var (
	long     = strings.Repeat("x", 4095)
	oddTexts = []string{long, long + "x", "\xff", long + "é", long + "\xff"}
)

func (m maker) text(int) string {
	return pick(m, []string{"", "a", "é", "\x00\x01\x02", "do it"}, oddTexts)
}

func (m maker) container(i int) spec.Container {
	name := letter(i) + pick(m, []string{"", "-1", "1"}, []string{"-", ".", ".b"})
	if m.Intn(m.odd) == 0 {
		name = "a"
	}
	return spec.Container{
		Name:    name,
		Image:   pick(m, []string{"nginx", "a:1"}, []string{"", "A"}),
		Command: some(m, []int{0, 0, 1, 2}, m.text),
		Ports: some(m, []int{0, 0, 1, 2, 3}, func(i int) spec.Port {
			number := pick(m, []int64{1, 80, 8080, 65000}, []int64{0, -1, 65536, 65530}) + int64(m.Intn(9))
			return spec.Port{Number: number, Proto: pick(m, []spec.Proto{0, 1}, []spec.Proto{-1, 2, 255, 256})}
		}),
		Cpu:    pick(m, []int64{1, 100, 64000}, []int64{-1, 0, 64001, 1<<32 - 1, 1 << 32}),
		Memory: pick(m, []int64{1, 64, 1048576}, []int64{-1, 0, 1048577, 1<<32 - 1, 1 << 32}),
		Env: some(m, []int{0, 0, 1, 2}, func(i int) spec.Env {
			return spec.Env{Name: letter(i) + pick(m, []string{"", "1", "_"}, []string{"-", "."}), Value: m.text(i)}
		}),
	}
}

// file is a name behind the one ahead, but for odd ones.
func (m maker) file(ahead string) string {
	return pick(m, []string{ahead + "0", ahead + "-", ahead + "a/b"}, []string{ahead, "", "A", ahead[:len(ahead)/2], "/", ahead + "é"})
}

func (m maker) state() ckthree.State {
	s := ckthree.State{Seq: m.Uint64()}
	ahead := ""
	for range m.Intn(6) {
		ahead = m.file(ahead)
		containers := []int{1, 1, 2, 3}
		if m.Intn(m.odd) == 0 {
			containers = []int{0}
		}
		s.Pods = append(s.Pods, ckthree.Pod{File: ahead, Pod: spec.Pod{
			Name:       pick(m, []string{"a", "a.b"}, []string{"", "A"}),
			Namespace:  pick(m, []string{"a", "b"}, []string{"", "a.b"}),
			Restart:    pick(m, []spec.Restart{0, 1, 2}, []spec.Restart{-1, 3, 255, 256}),
			Grace:      pick(m, []int64{1, 30, 3600}, []int64{-1, 0, 3601, 65535, 65536}),
			Host:       m.Intn(2) == 0,
			Containers: some(m, containers, m.container),
		}})
	}
	return s
}

// P19.1, P19.2: random states, from those in which much is odd to those in which almost nothing is, against the model.
func TestStatesAgainstModel(t *testing.T) {
	seen := map[api.Errno]int{}
	source := rand.New(rand.NewSource(19))
	for n := range 20000 {
		m := maker{source, 8 << (n % 9)}
		s := m.state()
		want := modelCheck(s)
		seen[want]++
		hold(t, "a random state", s, want)
		other := m.state()
		holdSame(t, "random states", s, other, equal(s, other))
		holdSame(t, "a random state, and its copy", s, copyOf(s), true)
		holdFind(t, "a random state", s)
	}
	for _, e := range []api.Errno{api.OK, api.ErrName, api.ErrForm, api.ErrRange, api.ErrNone, api.ErrFull, api.ErrTwice, api.ErrText, api.ErrLong} {
		if seen[e] < 100 {
			t.Errorf("only %d states were %v", seen[e], e)
		}
	}
}

// spoilt is bytes, of which some are other ones, are gone, or stand there once more.
func (m maker) spoilt(b string) string {
	for range m.Intn(4) {
		at := m.Intn(len(b) + 1)
		to := at + m.Intn(min(len(b)-at, 9)+1)
		switch m.Intn(5) {
		case 0:
			b = b[:at]
		case 1:
			b = b[:at] + b[to:]
		case 2:
			b = b[:to] + b[at:]
		case 3:
			b = b[:at] + string([]byte{byte(m.Intn(256))}) + b[to:]
		default:
			if at < len(b) {
				b = b[:at] + string([]byte{b[at] ^ 1<<m.Intn(8)}) + b[at+1:]
			}
		}
	}
	return b
}

// P19.1, P19.2: bytes of random states, spoilt ones, and random bytes, against the model.
func TestBytesAgainstModel(t *testing.T) {
	seen := map[api.Errno]int{}
	source := rand.New(rand.NewSource(1919))
	for n := range 100000 {
		m := maker{source, 8 << (n % 9)}
		b := m.spoilt(raw(m.state()))
		if n%10 == 0 {
			l := make([]byte, m.Intn(80))
			for i := range l {
				l[i] = byte(m.Intn(256) >> m.Intn(9))
			}
			b = string(l)
		}
		want, e := modelDecode(b)
		seen[e]++
		decoded(t, "random bytes", b, want, e)
	}
	for _, e := range []api.Errno{api.OK, api.ErrShort, api.ErrLong, api.ErrForm, api.ErrFull, api.ErrName, api.ErrRange, api.ErrNone, api.ErrTwice, api.ErrText} {
		if seen[e] < 100 {
			t.Errorf("only %d texts were %v", seen[e], e)
		}
	}
}
