package ckone_test

import (
	"math/rand"
	"regexp"
	"testing"

	"bosun/api"
	"bosun/ckone"
	"bosun/dns"
)

var fileForm = regexp.MustCompile(`\A[a-z0-9._/-]{1,64}\z`)

// modelCheck is what is wrong with a state, by the chapter's words.
func modelCheck(s ckone.State) api.Errno {
	var faults []api.Errno
	note := func(wrong bool, e api.Errno) {
		if wrong {
			faults = append(faults, e)
		}
	}
	note(len(s.Pods) > 1024, api.ErrFull)
	for i, p := range s.Pods {
		note(!fileForm.MatchString(p.File), api.ErrName)
		note(!dns.Name(p.Name), api.ErrName)
		note(!dns.Image(p.Image), api.ErrForm)
		note(i > 0 && !(s.Pods[max(i-1, 0)].File < p.File), api.ErrForm)
		note(p.Restart != 0 && p.Restart != 1 && p.Restart != 2, api.ErrRange)
	}
	return append(faults, api.OK)[0]
}

// cursor goes over bytes from the left, till something is wrong.
type cursor struct {
	b  string
	at int
	e  api.Errno
}

// number is the number of the next n bytes.
func (c *cursor) number(n int) int {
	if c.e == api.OK && c.at+n > len(c.b) {
		c.e = api.ErrShort
	}
	v := 0
	for range n {
		if c.e == api.OK {
			v, c.at = v*256+int(c.b[c.at]), c.at+1
		}
	}
	return v
}

// text is the text that comes next.
func (c *cursor) text() string {
	n := c.number(2)
	switch {
	case c.e != api.OK:
		return ""
	case n > 4096:
		c.e = api.ErrLong
		return ""
	case c.at+n > len(c.b):
		c.e = api.ErrShort
		return ""
	}
	c.at += n
	return c.b[c.at-n : c.at]
}

// modelDecode is the state of bytes, by the chapter's words.
func modelDecode(b string) (ckone.State, api.Errno) {
	c := &cursor{b: b}
	s := ckone.State{Seq: uint32(c.number(4))}
	n := c.number(2)
	if c.e == api.OK && n > 1024 {
		c.e = api.ErrFull
	}
	for i := 0; i < n && c.e == api.OK; i++ {
		var p ckone.Pod
		p.File = c.text()
		p.Name = c.text()
		p.Image = c.text()
		p.Restart = uint8(c.number(1))
		s.Pods = append(s.Pods, p)
	}
	if c.e == api.OK && c.at < len(b) {
		c.e = api.ErrForm
	}
	if c.e == api.OK {
		c.e = modelCheck(s)
	}
	if c.e != api.OK {
		return ckone.State{}, c.e
	}
	return s, api.OK
}

// maker makes random states, of which one in so many parts is odd.
type maker struct {
	*rand.Rand
	odd int
}

// pick is one of the things that may be, or, if it is to be odd, one of the others.
func pick[T any](m maker, may, others []T) T {
	if m.Intn(m.odd) == 0 {
		may = others
	}
	return may[m.Intn(len(may))]
}

// file is a name behind the one ahead, but for odd ones.
func (m maker) file(ahead string) string {
	return pick(m, []string{ahead + "0", ahead + "-", ahead + "a/b"}, []string{ahead, "", "A", ahead[:len(ahead)/2], "/", ahead + "é"})
}

func (m maker) state() ckone.State {
	s := ckone.State{Seq: m.Uint32()}
	ahead := ""
	for range m.Intn(8) {
		ahead = m.file(ahead)
		s.Pods = append(s.Pods, ckone.Pod{
			File:    ahead,
			Name:    pick(m, []string{"a", "a.b", "x-1"}, []string{"", "-", "A", "a..b"}),
			Image:   pick(m, []string{"nginx", "a:1", "0"}, []string{"", "A", "a b"}),
			Restart: pick(m, []uint8{0, 1, 2}, []uint8{3, 4, 128, 255}),
		})
	}
	return s
}

// P17.1, P17.2: random states against the model.
func TestStatesAgainstModel(t *testing.T) {
	seen := map[api.Errno]int{}
	for n := range 20000 {
		m := maker{rand.New(rand.NewSource(int64(n))), 4 << (n % 8)}
		s := m.state()
		want := modelCheck(s)
		seen[want]++
		hold(t, "a random state", s, want)
		other := m.state()
		holdSame(t, "random states", s, other, equal(s, other))
		holdSame(t, "a random state, and its copy", s, copyOf(s), true)
	}
	for _, e := range []api.Errno{api.OK, api.ErrName, api.ErrForm, api.ErrRange} {
		if seen[e] < 500 {
			t.Errorf("only %d states were %v", seen[e], e)
		}
	}
}

// spoilt is bytes, of which some are other ones, are gone, or stand there once more.
func (m maker) spoilt(b string) string {
	for range m.Intn(4) {
		at := m.Intn(len(b) + 1)
		to := at + m.Intn(min(len(b)-at, 9)+1)
		switch m.Intn(5) {
		case 0:
			b = b[:at]
		case 1:
			b = b[:at] + b[to:]
		case 2:
			b = b[:to] + b[at:]
		case 3:
			b = b[:at] + string([]byte{byte(m.Intn(256))}) + b[to:]
		default:
			if at < len(b) {
				b = b[:at] + string([]byte{b[at] ^ 1<<m.Intn(8)}) + b[at+1:]
			}
		}
	}
	return b
}

// P17.1, P17.2: bytes of random states, spoilt ones, and random bytes, against the model.
func TestBytesAgainstModel(t *testing.T) {
	seen := map[api.Errno]int{}
	for n := range 100000 {
		m := maker{rand.New(rand.NewSource(int64(n))), 4 << (n % 8)}
		b := m.spoilt(raw(m.state()))
		if n%10 == 0 {
			l := make([]byte, m.Intn(60))
			for i := range l {
				l[i] = byte(m.Intn(256) >> m.Intn(9))
			}
			b = string(l)
		}
		want, e := modelDecode(b)
		seen[e]++
		decoded(t, "random bytes", b, want, e)
	}
	for _, e := range []api.Errno{api.OK, api.ErrShort, api.ErrLong, api.ErrForm, api.ErrFull, api.ErrName, api.ErrRange} {
		if seen[e] < 500 {
			t.Errorf("only %d texts were %v", seen[e], e)
		}
	}
}
