package crc_test

import (
	"hash/crc32"
	"math/bits"
	"math/rand"
	"strings"
	"sync"
	"testing"

	"bosun/crc"
)

// TestFirstUseAtOnce stands first, so that the table isn't laid yet when all begin.
func TestFirstUseAtOnce(t *testing.T) {
	var all sync.WaitGroup
	sums := make([]uint32, 64)
	for i := range sums {
		all.Add(1)
		go func() {
			defer all.Done()
			sums[i] = crc.Sum("123456789")
		}()
	}
	all.Wait()
	for _, n := range sums {
		if n != 0xCBF43926 {
			t.Fatalf("a sum is %08X", n)
		}
	}
}

// plainSum goes bit by bit, just as the chapter's words say it.
func plainSum(s string) uint32 {
	n := ^uint32(0)
	for i := range len(s) {
		for j := range 8 {
			unlike := n&1 != uint32(s[i]>>j)&1
			n >>= 1
			if unlike {
				n ^= 0xEDB88320
			}
		}
	}
	return ^n
}

func randomText(r *rand.Rand, n int) string {
	b := make([]byte, n)
	for i := range b {
		b[i] = byte(r.Intn(256))
	}
	return string(b)
}

// P1.1
func TestSumOfKnownTexts(t *testing.T) {
	for _, c := range []struct {
		s    string
		want uint32
	}{
		{"", 0},
		{"123456789", 0xCBF43926},
		{"a", 0xE8B7BE43},
		{"abc", 0x352441C2},
		{"\x00", 0xD202EF8D},
		{"\xff", 0xFF000000},
		{"\x00\x00\x00\x00", 0x2144DF1C},
		{"\xff\xff\xff\xff", 0xFFFFFFFF},
		{"The quick brown fox jumps over the lazy dog", 0x414FA339},
	} {
		if n := crc.Sum(c.s); n != c.want {
			t.Errorf("Sum(%q) is %08X, not %08X", c.s, n, c.want)
		}
	}
}

// P1.1
func TestSumIsAsTheChapterSays(t *testing.T) {
	for b := range 256 {
		s := string([]byte{byte(b)})
		if n := crc.Sum(s); n != plainSum(s) {
			t.Errorf("Sum(%q) is %08X, not %08X", s, n, plainSum(s))
		}
	}
	r := rand.New(rand.NewSource(1))
	for n := range 300 {
		s := randomText(r, n)
		if got := crc.Sum(s); got != plainSum(s) || got != crc32.ChecksumIEEE([]byte(s)) {
			t.Errorf("of %d bytes: %08X, not %08X", n, got, plainSum(s))
		}
	}
	long := strings.Repeat("bosun\x00\xff", 200000)
	if n := crc.Sum(long); n != crc32.ChecksumIEEE([]byte(long)) {
		t.Errorf("of %d bytes: %08X", len(long), n)
	}
}

// P1.1
func TestMoreGoesOn(t *testing.T) {
	r := rand.New(rand.NewSource(2))
	for _, n := range []int{0, 1, 2, 3, 4, 5, 9, 64, 257} {
		s := randomText(r, n)
		whole := plainSum(s)
		for i := range n + 1 {
			if got := crc.More(crc.Sum(s[:i]), s[i:]); got != whole {
				t.Errorf("%d bytes parted at %d: %08X, not %08X", n, i, got, whole)
			}
		}
		sum := crc.Sum("")
		for i := range n {
			sum = crc.More(sum, s[i:i+1])
		}
		if sum != whole {
			t.Errorf("%d bytes one by one: %08X, not %08X", n, sum, whole)
		}
	}
}

// P1.1: each number of 32 bits is the sum of some text, so More takes all of them.
func TestMoreOfAnySum(t *testing.T) {
	r := rand.New(rand.NewSource(3))
	sums := []uint32{0, 1, 0x7FFFFFFF, 0x80000000, 0xFFFFFFFF}
	for range 100 {
		sums = append(sums, r.Uint32())
	}
	for _, sum := range sums {
		if n := crc.More(sum, ""); n != sum {
			t.Errorf("More(%08X, nothing) is %08X", sum, n)
		}
		s := randomText(r, 1+r.Intn(20))
		if n := crc.More(sum, s); n != crc32.Update(sum, crc32.IEEETable, []byte(s)) {
			t.Errorf("More(%08X, %q) is %08X", sum, s, n)
		}
	}
}

// turned is a text whose bits from at on are turned where those of pattern, from the lowest on, are 1.
func turned(s string, at int, pattern uint32) string {
	b := []byte(s)
	for i := range 32 {
		if pattern>>i&1 == 1 {
			b[(at+i)/8] ^= 1 << ((at + i) % 8)
		}
	}
	return string(b)
}

// rank is how many of the numbers are independent, added without carry.
func rank(l []uint32) int {
	n := 0
	var highest [32]uint32
	for _, v := range l {
		for v != 0 {
			h := 31 - bits.LeadingZeros32(v)
			if highest[h] == 0 {
				highest[h] = v
				n++
				break
			}
			v ^= highest[h]
		}
	}
	return n
}

// P1.2: sums change by what is turned alone, bits that are turned together adding up without carry. So no pattern
// within 32 bits leaves the sum as it was just if the changes of the 32 single bits are independent.
func TestNoTurnWithin32BitsIsMissed(t *testing.T) {
	r := rand.New(rand.NewSource(4))
	for _, n := range []int{4, 5, 8, 13, 100} {
		s := randomText(r, n)
		for at := range 8*n - 31 {
			var changes []uint32
			for i := range 32 {
				changes = append(changes, crc.Sum(s)^crc.Sum(turned(s, at, 1<<i)))
			}
			if got := rank(changes); got != 32 {
				t.Fatalf("%d bytes, from bit %d on: %d of 32 changes are independent", n, at, got)
			}
		}
	}
}

// P1.2
func TestTurnedTextsHaveOtherSums(t *testing.T) {
	r := rand.New(rand.NewSource(5))
	for _, n := range []int{4, 5, 9, 64, 4096} {
		s := randomText(r, n)
		sum := crc.Sum(s)
		for range 2000 {
			at := r.Intn(8*n - 31)
			for _, p := range []uint32{1, 1 << 31, 1<<31 | 1, 0xFFFFFFFF, 0xEDB88320, 0xDB710641, r.Uint32() | 1} {
				if crc.Sum(turned(s, at, p)) == sum {
					t.Fatalf("%d bytes, from bit %d on, %08X turned: the sum is the same", n, at, p)
				}
			}
		}
	}
}

// P1.2: texts of less than 32 bits may be unlike anywhere.
func TestShortTextsHaveSumsOfTheirOwn(t *testing.T) {
	seen := map[uint32]bool{}
	for v := range 1 << 16 {
		seen[crc.Sum(string([]byte{byte(v >> 8), byte(v)}))] = true
	}
	if len(seen) != 1<<16 {
		t.Errorf("%d sums of %d texts of two bytes", len(seen), 1<<16)
	}
}
