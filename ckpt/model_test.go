package ckpt_test

import (
	"encoding/binary"
	"hash/crc32"
	"math/rand"
	"testing"

	"bosun/api"
	"bosun/ckone"
	"bosun/ckpt"
	"bosun/ckthree"
	"bosun/cktwo"
	"bosun/frame"
	"bosun/spec"
	"bosun/upgrade"
)

// openOf is what layer 3's words say of a text.
func openOf(b string) (version uint8, payload string, e api.Errno) {
	for i, c := range []byte("PODC") {
		if i < len(b) && b[i] != c {
			return 0, "", api.ErrMagic
		}
	}
	if len(b) < 9 {
		return 0, "", api.ErrShort
	}
	n := int64(binary.BigEndian.Uint32([]byte(b[5:9])))
	if n > mostPayload {
		return 0, "", api.ErrLong
	}
	rest := int64(len(b)) - 9 - n - 4
	if rest < 0 {
		return 0, "", api.ErrShort
	}
	if rest > 0 {
		return 0, "", api.ErrForm
	}
	if crc32.ChecksumIEEE([]byte(b[4:9+n])) != binary.BigEndian.Uint32([]byte(b[9+n:])) {
		return 0, "", api.ErrSum
	}
	return b[4], b[9 : 9+n], api.OK
}

// loadOf is what the chapter's words say of a text.
func loadOf(b string) (ckthree.State, uint8, api.Errno) {
	version, payload, e := openOf(b)
	if e != api.OK {
		return ckthree.State{}, 0, e
	}
	var s ckthree.State
	switch version {
	case 1:
		one, err := ckone.Decode(payload)
		s, e = upgrade.Three(upgrade.Two(one)), err
	case 2:
		two, err := cktwo.Decode(payload)
		s, e = upgrade.Three(two), err
	case 3:
		s, e = ckthree.Decode(payload)
	default:
		e = api.ErrVersion
	}
	if e != api.OK {
		return ckthree.State{}, 0, e
	}
	return s, version, api.OK
}

// maker makes random things; some of them may not be, if it is wild.
type maker struct {
	*rand.Rand
	wild bool
}

// one is one of some texts.
func (m maker) one(l ...string) string { return l[m.Intn(len(l))] }

// odd says whether something is to be that may not be.
func (m maker) odd() bool { return m.wild && m.Intn(20) == 0 }

func (m maker) name() string {
	if m.odd() {
		return m.one("", "A", "\xff", "-")
	}
	return m.one("a", "b", "main", "default", "web-1", "0")
}

// nth is the name, of its kind, of the item of a number: none are alike, if the maker isn't wild.
func (m maker) nth(kind string, i int) string {
	if m.odd() {
		return m.one("", kind, "\xff", "-", kind+"b")
	}
	return kind + string([]byte{byte('a' + i)})
}

// number is one from the least to the most that may be, or, of a wild maker, to the most there is.
func (m maker) number(least, most, all int) int {
	if m.odd() {
		return m.Intn(all + 1)
	}
	return least + m.Intn(most-least+1)
}

func (m maker) stateOne() ckone.State {
	s := ckone.State{Seq: m.Uint32()}
	for i := range m.Intn(4) {
		s.Pods = append(s.Pods, ckone.Pod{File: m.nth("f", i), Name: m.name(), Image: m.name(), Restart: uint8(m.number(0, 2, 255))})
	}
	return s
}

func (m maker) stateTwo() cktwo.State {
	s := cktwo.State{Seq: m.Uint64()}
	for i := range m.Intn(4) {
		p := cktwo.Pod{File: m.nth("f", i), Name: m.name(), Namespace: m.name(), Restart: uint8(m.number(0, 2, 255)), Grace: uint16(m.number(1, 3600, 65535))}
		for k := range m.number(1, 3, 18) {
			p.Containers = append(p.Containers, cktwo.Container{Name: m.nth("c", k), Image: m.name()})
		}
		s.Pods = append(s.Pods, p)
	}
	return s
}

func (m maker) container(i int) spec.Container {
	c := spec.Container{Name: m.nth("c", i), Image: m.name(), Cpu: int64(m.number(1, 64000, 1<<17)), Memory: int64(m.number(1, 1<<20, 1<<22))}
	for range m.number(0, 2, 17) {
		c.Command = append(c.Command, m.name())
	}
	for range m.number(0, 1, 2) {
		c.Ports = append(c.Ports, spec.Port{Number: int64(m.number(1, 65535, 65535)), Proto: spec.Proto(m.number(0, 1, 3))})
	}
	for i := range m.number(0, 2, 17) {
		c.Env = append(c.Env, spec.Env{Name: m.nth("E", i), Value: m.one("", "v", "é")})
	}
	return c
}

func (m maker) stateThree() ckthree.State {
	s := ckthree.State{Seq: m.Uint64()}
	for i := range m.Intn(4) {
		p := spec.Pod{Name: m.name(), Namespace: m.name(), Restart: spec.Restart(m.number(0, 2, 255)), Grace: int64(m.number(1, 3600, 65535)), Host: m.Intn(2) == 0}
		for k := range m.number(1, 3, 18) {
			p.Containers = append(p.Containers, m.container(k))
		}
		s.Pods = append(s.Pods, ckthree.Pod{File: m.nth("f", i), Pod: p})
	}
	return s
}

// holdRandom holds a random state's checkpoint, or that it has none; what it answers is the checkpoint, or a frame of the
// state's bytes.
func holdRandom[S any](t *testing.T, v versioned[S], s S, raw func(s S) string) (string, api.Errno) {
	t.Helper()
	_, e := v.encode(s)
	if e == api.OK {
		return hold(t, "a random state", v, s), e
	}
	unsaved(t, "a random state", v, s, e)
	return frameOf(v.number, raw(s)), e
}

// P21.1, P21.2: random states of each version, those that may be, and others, and their bytes.
func TestStatesAgainstModel(t *testing.T) {
	seen := map[api.Errno]int{}
	for n := range 8000 {
		m := maker{rand.New(rand.NewSource(int64(n))), n%2 == 0}
		one, a := holdRandom(t, ones(), m.stateOne(), rawOne)
		two, b := holdRandom(t, twos(), m.stateTwo(), rawTwo)
		three, c := holdRandom(t, threes(), m.stateThree(), rawThree)
		if !m.wild && (a != api.OK || b != api.OK || c != api.OK) {
			t.Fatalf("states %d: Encode says %v, %v and %v", n, a, b, c)
		}
		for _, b := range []string{one, two, three} {
			s, version, e := loadOf(b)
			loaded(t, "a random state", b, s, version, e)
			seen[e]++
		}
		seen[a]++
		seen[b]++
		seen[c]++
	}
	for _, e := range []api.Errno{api.OK, api.ErrForm, api.ErrRange, api.ErrName, api.ErrTwice, api.ErrText, api.ErrFull} {
		if seen[e] < 100 {
			t.Errorf("%v was seen %d times", e, seen[e])
		}
	}
}

// spoilt is a text of which something was spoilt, most often in a way that its frame is well again.
func (m maker) spoilt(b string) string {
	payload, version := []byte(b[9:len(b)-4]), b[4]
	at := m.Intn(len(payload))
	switch m.Intn(12) {
	case 0:
		return b[:m.Intn(len(b)+1)]
	case 1:
		return b + m.one("\x00", "x", "more")
	case 2:
		return turned(b+"\x00\x00\x00\x00", m.Intn(len(b)*8), m.Uint32())[:len(b)]
	case 3:
		return plainFrame(version, uint32(m.number(0, 2*len(payload), 1<<30)), string(payload))
	case 4:
		version = uint8(m.Intn(6))
	case 5:
		payload = payload[:at]
	case 6:
		payload = append(payload, byte(m.Intn(256)))
	case 7:
		payload = append(payload[:at], payload[at+1:]...)
	case 8:
		return frameOf(version, b)
	case 9:
		version = uint8(m.Intn(256))
		payload[at]++
	default:
		payload[at] = byte(m.Intn(256))
	}
	return frameOf(version, string(payload))
}

// P21.1, R1: random checkpoints that were spoilt, held against the model, and against the layers below.
func TestSpoiltAgainstModel(t *testing.T) {
	seen := map[api.Errno]int{}
	for n := range 20000 {
		m := maker{rand.New(rand.NewSource(int64(n))), n%4 == 0}
		var b string
		switch n % 3 {
		case 0:
			b = frameOf(1, rawOne(m.stateOne()))
		case 1:
			b = frameOf(2, rawTwo(m.stateTwo()))
		case 2:
			b = frameOf(3, rawThree(m.stateThree()))
		}
		for range 1 + m.Intn(2) {
			if len(b) > 13 {
				b = m.spoilt(b)
			}
		}
		s, version, e := loadOf(b)
		seen[e]++
		loaded(t, "a checkpoint that was spoilt", b, s, version, e)
		if _, _, err := frame.Open(b); err != api.OK && err != e {
			t.Fatalf("of %q Open answers %v, and the model %v", b, err, e)
		}
	}
	for _, e := range []api.Errno{api.OK, api.ErrShort, api.ErrLong, api.ErrMagic, api.ErrVersion, api.ErrSum, api.ErrForm, api.ErrRange, api.ErrName, api.ErrFull} {
		if seen[e] < 30 {
			t.Errorf("%v was seen %d times", e, seen[e])
		}
	}
}

// R1: whatever bytes there are, there is a state, or an error.
func TestRandomBytes(t *testing.T) {
	for n := range 20000 {
		r := rand.New(rand.NewSource(int64(n)))
		l := make([]byte, r.Intn(80))
		for i := range l {
			l[i] = byte(r.Intn(1 << r.Intn(9)))
		}
		for _, b := range []string{string(l), "PODC" + string(l), frameOf(uint8(r.Intn(5)), string(l))} {
			s, version, e := loadOf(b)
			loaded(t, "random bytes", b, s, version, e)
			if _, _, err := ckpt.Load(b); err < api.OK || err > api.ErrState {
				t.Fatalf("of %q Load answers %v", b, err)
			}
		}
	}
}
