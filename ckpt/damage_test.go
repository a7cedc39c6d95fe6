package ckpt_test

import (
	"fmt"
	"math/rand"
	"strings"
	"testing"

	"bosun/api"
	"bosun/ckone"
	"bosun/ckthree"
	"bosun/cktwo"
	"bosun/spec"
)

// zone is a part of a checkpoint of which things may be turned, from a byte to another, and what comes of it.
type zone struct {
	what     string
	from, to int
	want     api.Errno
}

// zones are those of a checkpoint.
func zones(b string) []zone {
	return []zone{
		{"the first four bytes", 0, 4, api.ErrMagic},
		{"the payload", 9, len(b) - 4, api.ErrSum},
		{"the sum", len(b) - 4, len(b), api.ErrSum},
	}
}

// turned is a text of which the bits from one place on are turned, where a pattern has a 1; they are counted byte by byte,
// the lowest first.
func turned(s string, at int, pattern uint32) string {
	b := []byte(s)
	for i := range 32 {
		if pattern>>i&1 == 1 {
			b[(at+i)/8] ^= 1 << ((at + i) % 8)
		}
	}
	return string(b)
}

// P21.2: a checkpoint that was cut off isn't loaded, wherever it was.
func TestCutOff(t *testing.T) {
	for what, b := range checkpoints() {
		for n := range len(b) {
			refused(t, fmt.Sprint(what, ", ", n, " bytes of it"), b[:n], api.ErrShort)
		}
	}
	for version, b := range map[uint8]string{1: hold(t, "big", ones(), bigOne()), 2: hold(t, "big", twos(), bigTwo(mostPayload)), 3: hold(t, "big", threes(), bigThree(mostPayload))} {
		for _, n := range []int{1, 2, 3, 4, 5, 1000, len(b) / 2, len(b) - 14, len(b) - 13, len(b) - 10, len(b) - 9, len(b) - 5, len(b) - 1, len(b)} {
			refused(t, fmt.Sprint("a big one of version ", version, ", without its last bytes"), b[:len(b)-n], api.ErrShort)
		}
	}
}

// P21.2: each bit, turned alone.
func TestBits(t *testing.T) {
	for what, b := range checkpoints() {
		for _, z := range zones(b) {
			for at := z.from * 8; at < z.to*8; at++ {
				refused(t, fmt.Sprint(what, ", bit ", at, " of it, in ", z.what), turned(b, at, 1), z.want)
			}
		}
	}
}

// P21.2: windows of each number of bits up to 32, at each place: all of them turned, the outer ones, or some.
func TestWindows(t *testing.T) {
	r := rand.New(rand.NewSource(21))
	for what, b := range checkpoints() {
		for _, z := range zones(b) {
			for bits := 2; bits <= 32; bits++ {
				ends := uint32(1)<<(bits-1) | 1
				all := ends | (ends - 2)
				for at := z.from * 8; at+bits <= z.to*8; at++ {
					for _, pattern := range []uint32{all, ends, ends | r.Uint32()&all} {
						refused(t, fmt.Sprintf("%s, of %s bits from %d on turned by %x", what, z.what, at, pattern), turned(b, at, pattern), z.want)
					}
				}
			}
		}
	}
}

// P21.2: all of the first four bytes, and of the sum, in many ways, and the payload's last bytes and first ones.
func TestWholeWords(t *testing.T) {
	r := rand.New(rand.NewSource(22))
	for what, b := range checkpoints() {
		for _, z := range zones(b) {
			for range 1000 {
				pattern := r.Uint32()
				if pattern != 0 {
					refused(t, what+", of which there was turned "+z.what, turned(b, z.from*8, pattern), z.want)
					refused(t, what+", of which there was turned the end of "+z.what, turned(b, z.to*8-32, pattern), z.want)
				}
			}
		}
	}
}

// P21.2: a big checkpoint of each version, at some places.
func TestBigWindows(t *testing.T) {
	r := rand.New(rand.NewSource(23))
	for version, b := range map[uint8]string{1: hold(t, "big", ones(), bigOne()), 2: hold(t, "big", twos(), bigTwo(mostPayload)), 3: hold(t, "big", threes(), bigThree(mostPayload))} {
		for _, z := range zones(b) {
			for range 15 {
				at := z.from*8 + r.Intn((z.to-z.from)*8-31)
				refused(t, fmt.Sprint("a big one of version ", version, ", turned in ", z.what), turned(b, at, r.Uint32()|1), z.want)
			}
		}
	}
}

// P21.2: what is turned to what would be well as it is (another letter of a name, another number) isn't loaded, either.
func TestMeantDamage(t *testing.T) {
	one, two := ckone.State{Seq: 1, Pods: []ckone.Pod{{File: "f", Name: "web", Image: "i"}}}, cktwo.State{Seq: 1, Pods: []cktwo.Pod{
		{File: "f", Name: "web", Namespace: "s", Grace: 1, Containers: []cktwo.Container{{Name: "c", Image: "i"}}}}}
	three := ckthree.State{Seq: 1, Pods: []ckthree.Pod{{File: "f", Pod: spec.Pod{Name: "web", Namespace: "s", Grace: 1, Containers: []spec.Container{{Name: "c", Image: "i", Cpu: 1, Memory: 1}}}}}}
	for _, b := range []string{hold(t, "a state", ones(), one), hold(t, "a state", twos(), two), hold(t, "a state", threes(), three)} {
		for _, name := range []string{"wed", "wab", "abc", "aeb", "w-b"} {
			other := strings.Replace(b, "web", name, 1)
			refused(t, "another name", other, api.ErrSum)
			again := frameOf(b[4], other[9:len(other)-4])
			if s, _, e := loadOf(again); e != api.OK || s.Pods[0].Pod.Name != name {
				t.Errorf("with its sum %q says %+v, %v", again, s.Pods, e)
			}
		}
	}
}

// P21.1: the version and the length are summed, too: what is turned in one of them alone isn't loaded.
func TestVersionAndLength(t *testing.T) {
	for what, b := range checkpoints() {
		for at := 4 * 8; at < 5*8; at++ {
			refused(t, fmt.Sprint(what, ", bit ", at), turned(b, at, 1), api.ErrSum)
		}
		for version := range 256 {
			if byte(version) != b[4] {
				refused(t, fmt.Sprint(what, ", made version ", version), b[:4]+string([]byte{byte(version)})+b[5:], api.ErrSum)
			}
		}
		for at := 5 * 8; at < 9*8; at++ {
			other := turned(b, at, 1)
			_, _, e := loadOf(other)
			if e != api.ErrShort && e != api.ErrForm && e != api.ErrLong {
				t.Fatalf("%s, bit %d: the model says %v", what, at, e)
			}
			refused(t, fmt.Sprint(what, ", bit ", at), other, e)
		}
	}
}
