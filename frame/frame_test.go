package frame_test

import (
	"encoding/binary"
	"hash/crc32"
	"math"
	"math/bits"
	"math/rand"
	"strings"
	"testing"

	"bosun/api"
	"bosun/frame"
)

// Where the parts of a frame stand: the magic, the version, the length, and behind these the payload.
const (
	versionAt = 4
	lengthAt  = 5
	payloadAt = 9
)

// plainFrame is a frame as the chapter's words say it, with a length of its own choice.
func plainFrame(version uint8, length uint32, payload string) string {
	summed := append([]byte{version}, binary.BigEndian.AppendUint32(nil, length)...)
	summed = append(summed, payload...)
	sum := binary.BigEndian.AppendUint32(nil, crc32.ChecksumIEEE(summed))
	return "PODC" + string(summed) + string(sum)
}

func frameOf(version uint8, payload string) string {
	return plainFrame(version, uint32(len(payload)), payload)
}

func randomText(r *rand.Rand, n int) string {
	b := make([]byte, n)
	r.Read(b)
	return string(b)
}

// refused holds that a text isn't opened, and for which error.
func refused(t *testing.T, what, s string, want api.Errno) {
	t.Helper()
	version, payload, e := frame.Open(s)
	if version != 0 || payload != "" || e != want {
		t.Errorf("%s: Open answers %d, %d bytes and %v, not %v alone", what, version, len(payload), e, want)
	}
}

// opened holds that a text is opened as it was closed.
func opened(t *testing.T, s string, version uint8, payload string) {
	t.Helper()
	v, p, e := frame.Open(s)
	if v != version || p != payload || e != api.OK {
		t.Errorf("Open answers %d, %d bytes and %v, not %d and %d bytes", v, len(p), e, version, len(payload))
	}
}

// P3.1: the chapter's example and another frame, byte by byte.
func TestKnownFrames(t *testing.T) {
	for _, c := range []struct {
		version       uint8
		payload, want string
	}{
		{3, "", "PODC\x03\x00\x00\x00\x00\x81\x82\x8d\xcd"},
		{1, "hello", "PODC\x01\x00\x00\x00\x05hello\xac\xb7\xc3\x60"},
	} {
		if s, e := frame.Close(c.version, c.payload); s != c.want || e != api.OK {
			t.Errorf("Close(%d, %q) is %q and %v, not %q", c.version, c.payload, s, e, c.want)
		}
		opened(t, c.want, c.version, c.payload)
	}
}

// P3.1
func TestClose(t *testing.T) {
	if frame.Most != 1<<22 {
		t.Errorf("Most is %d", frame.Most)
	}
	r := rand.New(rand.NewSource(1))
	for _, n := range []int{0, 1, 2, 3, 4, 5, 8, 9, 13, 255, 256, 65535, 65536, frame.Most - 1, frame.Most} {
		payload := randomText(r, n)
		for _, version := range []uint8{0, 1, 3, 127, 128, 255} {
			if s, e := frame.Close(version, payload); s != frameOf(version, payload) || e != api.OK {
				t.Errorf("Close(%d, %d bytes) has %d bytes and %v", version, n, len(s), e)
			}
		}
	}
}

// P3.1
func TestCloseOfTooMuch(t *testing.T) {
	for _, n := range []int{frame.Most + 1, frame.Most + 2, 2 * frame.Most} {
		if s, e := frame.Close(3, strings.Repeat("x", n)); s != "" || e != api.ErrLong {
			t.Errorf("Close(3, %d bytes) has %d bytes and %v", n, len(s), e)
		}
	}
}

// P3.1: frames that weren't made by Close.
func TestOpen(t *testing.T) {
	r := rand.New(rand.NewSource(2))
	for _, n := range []int{0, 1, 4, 9, 255, 256, 65536, frame.Most - 1, frame.Most} {
		payload := randomText(r, n)
		for _, version := range []uint8{0, 1, 3, 127, 128, 255} {
			opened(t, frameOf(version, payload), version, payload)
		}
	}
	inner := frameOf(7, "inner")
	opened(t, frameOf(8, inner), 8, inner)
}

// P3.1: of fewer bytes than 9 it is ErrShort, if those that are there are right.
func TestOpenOfFewerThanNine(t *testing.T) {
	whole := frameOf(3, "")
	for n := range payloadAt {
		refused(t, "too few bytes", whole[:n], api.ErrShort)
	}
	refused(t, "too few bytes, though not as in a frame", "PODC\xff\xff\xff\xff", api.ErrShort)
}

// P3.1: ErrMagic is ahead of all, and is told by as many of the first bytes as there are.
func TestOpenOfWrongMagic(t *testing.T) {
	whole := frameOf(3, "payload")
	tails := map[string]string{
		"right":                whole,
		"too long":             "PODC\x03\xff\xff\xff\xff",
		"cut off":              whole[:len(whole)-1],
		"with something more":  whole + "x",
		"with another sum":     whole[:len(whole)-1] + "x",
		"of a head, and short": whole[:8],
	}
	for what, s := range tails {
		for at := range 4 {
			for b := range 256 {
				if byte(b) == s[at] {
					continue
				}
				wrong := s[:at] + string([]byte{byte(b)}) + s[at+1:]
				refused(t, "a wrong magic, else "+what, wrong, api.ErrMagic)
				refused(t, "a wrong magic, cut off there", wrong[:at+1], api.ErrMagic)
			}
		}
	}
	for _, s := range []string{"p", "O", "\x00", "Po", "PODc", "podc", " PODC", "ODC", "PODD", "CDOP", "xPODC\x03\x00\x00\x00\x00"} {
		refused(t, s, s, api.ErrMagic)
	}
}

// P3.1: ErrLong is told of the length alone, whatever stands behind it.
func TestOpenOfTooLong(t *testing.T) {
	for _, n := range []uint32{frame.Most + 1, frame.Most + 2, 1 << 23, 1 << 24, math.MaxInt32, 1 << 31, math.MaxUint32 - 12, math.MaxUint32} {
		s := plainFrame(3, n, "x")
		for _, there := range []int{payloadAt, payloadAt + 1, len(s)} {
			refused(t, "a length too great", s[:there], api.ErrLong)
		}
	}
	for _, more := range []string{"", "more"} {
		s := frameOf(3, strings.Repeat("x", frame.Most+1))
		refused(t, "one byte too many, and a frame else", s+more, api.ErrLong)
	}
	refused(t, "a length that just may be", plainFrame(3, frame.Most, "x"), api.ErrShort)
}

// P3.1: ErrShort and ErrForm are ahead of ErrSum.
func TestOpenOfAnotherLength(t *testing.T) {
	for _, payload := range []string{"", "a", "payload", strings.Repeat("\x00", 300)} {
		for _, s := range []string{frameOf(3, payload), frameOf(3, payload)[:payloadAt] + payload + "none"} {
			for n := payloadAt; n < len(s); n++ {
				refused(t, "fewer bytes than the frame has", s[:n], api.ErrShort)
			}
			for _, more := range []string{"\x00", "x", "PODC", s, strings.Repeat("x", 5000)} {
				refused(t, "more bytes than the frame has", s+more, api.ErrForm)
			}
		}
	}
	// The length is read highest byte first, and all of it.
	for i := range 3 {
		n := uint32(1) << (8 * i)
		refused(t, "one byte less than the length", plainFrame(3, n, strings.Repeat("x", int(n)-1)), api.ErrShort)
		refused(t, "one byte more than the length", plainFrame(3, n, strings.Repeat("x", int(n)+1)), api.ErrForm)
	}
	whole := frameOf(3, strings.Repeat("x", frame.Most))
	refused(t, "one byte less than the greatest frame", whole[:len(whole)-1], api.ErrShort)
	refused(t, "one byte more than the greatest frame", whole+"x", api.ErrForm)
}

// P3.1: the sum is that of the version, the length and the payload, no more and no less, highest byte first.
func TestOpenOfWrongSum(t *testing.T) {
	whole := frameOf(3, "payload")
	end := len(whole) - 4
	for _, summed := range []string{"", "payload", whole[:end], whole[lengthAt:end], whole[:payloadAt], whole[versionAt:payloadAt], whole[versionAt : end-1]} {
		sum := binary.BigEndian.AppendUint32(nil, crc32.ChecksumIEEE([]byte(summed)))
		refused(t, "the sum of other bytes", whole[:end]+string(sum), api.ErrSum)
	}
	sum := binary.BigEndian.Uint32([]byte(whole[end:]))
	for _, n := range []uint32{0, math.MaxUint32, ^sum, sum + 1, sum - 1, bits.ReverseBytes32(sum), bits.Reverse32(sum)} {
		refused(t, "another sum", whole[:end]+string(binary.BigEndian.AppendUint32(nil, n)), api.ErrSum)
	}
	for version := range 256 {
		if version != 3 {
			refused(t, "another version", whole[:versionAt]+string([]byte{byte(version)})+whole[lengthAt:], api.ErrSum)
		}
	}
	great := []byte(frameOf(3, strings.Repeat("x", frame.Most)))
	great[len(great)-5] = 'y'
	refused(t, "another last byte of the greatest payload", string(great), api.ErrSum)
}

// P3.2
func TestClosedIsOpenedAsItWas(t *testing.T) {
	r := rand.New(rand.NewSource(3))
	for version := range 256 {
		for _, n := range []int{0, 1, r.Intn(300), r.Intn(70000)} {
			payload := randomText(r, n)
			s, e := frame.Close(uint8(version), payload)
			if e != api.OK {
				t.Fatalf("Close(%d, %d bytes): %v", version, n, e)
			}
			opened(t, s, uint8(version), payload)
		}
	}
	for _, n := range []int{frame.Most - 1, frame.Most} {
		payload := randomText(r, n)
		s, _ := frame.Close(255, payload)
		opened(t, s, 255, payload)
	}
}

// P3.2: no part of a frame is one, though its payload holds frames.
func TestCutOffIsRefused(t *testing.T) {
	r := rand.New(rand.NewSource(4))
	inner, _ := frame.Close(1, "inner")
	for _, payload := range []string{"", "a", "payload", inner, inner + inner, strings.Repeat("\x00", 64), randomText(r, 700)} {
		s, _ := frame.Close(2, payload)
		for n := range len(s) {
			refused(t, "a frame that is cut off", s[:n], api.ErrShort)
		}
	}
	s, _ := frame.Close(2, randomText(r, frame.Most))
	for _, n := range []int{0, 4, 8, 9, 10, 12, 13, len(s) / 2, len(s) - 5, len(s) - 4, len(s) - 1} {
		refused(t, "the greatest frame, cut off", s[:n], api.ErrShort)
	}
}

// turned is a text whose bits from at on are turned where those of pattern, from the lowest on, are 1.
func turned(s string, at int, pattern uint32) string {
	b := []byte(s)
	for i := range 32 {
		if pattern>>i&1 == 1 {
			b[(at+i)/8] ^= 1 << ((at + i) % 8)
		}
	}
	return string(b)
}

// patterns are some, none of them without a turned bit, that take at most width bits from the first one on.
func patterns(r *rand.Rand, width int) []uint32 {
	l := []uint32{1, 1 << 31, 1<<31 | 1, math.MaxUint32, 0xEDB88320, 0xDB710641}
	for i := range 32 {
		l = append(l, 1<<i)
	}
	for range 40 {
		l = append(l, r.Uint32(), r.Uint32()&r.Uint32()&r.Uint32())
	}
	var within []uint32
	for _, p := range l {
		if p &= math.MaxUint32 >> (32 - width); p != 0 {
			within = append(within, p)
		}
	}
	return within
}

// refusedTurned turns bits between two places, wherever they may begin, and holds that the frame is refused.
func refusedTurned(t *testing.T, r *rand.Rand, s string, from, to int, want api.Errno) {
	t.Helper()
	for at := 8 * from; at < 8*to; at++ {
		for _, p := range patterns(r, min(32, 8*to-at)) {
			if v, payload, e := frame.Open(turned(s, at, p)); v != 0 || payload != "" || e != want {
				t.Fatalf("of %d bytes, from bit %d on, %08X turned: %d, %d bytes and %v, not %v", len(s), at, p, v, len(payload), e, want)
			}
		}
	}
}

// P3.2
func TestTurnedIsRefused(t *testing.T) {
	r := rand.New(rand.NewSource(5))
	for _, payload := range []string{"", "a", "ab", "abcd", "payload", strings.Repeat("\x00", 40), strings.Repeat("\xff", 40), randomText(r, 150)} {
		s, _ := frame.Close(3, payload)
		end := len(s) - 4
		refusedTurned(t, r, s, 0, 4, api.ErrMagic)
		refusedTurned(t, r, s, payloadAt, end, api.ErrSum)
		refusedTurned(t, r, s, end, len(s), api.ErrSum)
	}
}

// P3.2: of the greatest payload, at its ends and within.
func TestTurnedInTheGreatestIsRefused(t *testing.T) {
	r := rand.New(rand.NewSource(6))
	s, _ := frame.Close(3, randomText(r, frame.Most))
	end := len(s) - 4
	for _, at := range []int{8 * payloadAt, 8*payloadAt + 5, 4 * len(s), 8*end - 33, 8*end - 32} {
		for _, p := range []uint32{1, 1 << 31, math.MaxUint32, r.Uint32() | 1} {
			refused(t, "the greatest frame, turned", turned(s, at, p), api.ErrSum)
		}
	}
	refused(t, "the greatest frame, its sum turned", turned(s, 8*end, math.MaxUint32), api.ErrSum)
	refused(t, "the greatest frame, its magic turned", turned(s, 0, 1<<31), api.ErrMagic)
}

// P3.1, R1, R2: whatever is opened, it is a frame just if Close makes it of what was answered.
func TestOpenOfAnything(t *testing.T) {
	r := rand.New(rand.NewSource(7))
	for range 20000 {
		s := anything(r)
		version, payload, e := frame.Open(s)
		if e != api.OK {
			refused(t, "not a frame", s, e)
			continue
		}
		if again, e := frame.Close(version, payload); again != s || e != api.OK {
			t.Fatalf("%q is opened, but %q is closed", s, again)
		}
	}
}

// anything is bytes that are a frame, or nearly one, or nothing like it.
func anything(r *rand.Rand) string {
	s := frameOf(byte(r.Intn(256)), randomText(r, r.Intn(20)))
	switch r.Intn(6) {
	case 0:
		return s
	case 1:
		return turned(s, r.Intn(8*len(s)-31), r.Uint32())
	case 2:
		return s[:r.Intn(len(s))]
	case 3:
		return s + randomText(r, r.Intn(3))
	case 4:
		return "PODC" + randomText(r, r.Intn(20))
	}
	return randomText(r, r.Intn(20))
}
