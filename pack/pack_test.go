package pack_test

import (
	"math"
	"math/rand"
	"strings"
	"testing"

	"bosun/api"
	"bosun/pack"
)

// wrongWidths are some numbers of bytes that no number has.
var wrongWidths = []int{math.MinInt, -8, -4, -2, -1, 0, 3, 5, 6, 7, 9, 16, 1 << 32, 1<<32 + 1, math.MaxInt}

// check holds a taker against what it should be.
func check(t *testing.T, what string, x *pack.Taker, rest string, e api.Errno) {
	t.Helper()
	if x.Rest != rest || x.Err != e {
		t.Errorf("%s: Rest %q and Err %v, not %q and %v", what, x.Rest, x.Err, rest, e)
	}
}

// P2.1
func TestPut(t *testing.T) {
	for _, c := range []struct {
		n    int
		v    uint64
		want string
	}{
		{1, 0, "\x00"},
		{1, 255, "\xff"},
		{1, 256, "\x00"},
		{1, 0x1234, "\x34"},
		{2, 258, "\x01\x02"},
		{2, 65535, "\xff\xff"},
		{2, 65536, "\x00\x00"},
		{2, 0x123456, "\x34\x56"},
		{4, 0x01020304, "\x01\x02\x03\x04"},
		{4, math.MaxUint32, "\xff\xff\xff\xff"},
		{4, 1 << 32, "\x00\x00\x00\x00"},
		{4, 0x0102030405060708, "\x05\x06\x07\x08"},
		{8, 0x0102030405060708, "\x01\x02\x03\x04\x05\x06\x07\x08"},
		{8, 1, "\x00\x00\x00\x00\x00\x00\x00\x01"},
		{8, math.MaxUint64, "\xff\xff\xff\xff\xff\xff\xff\xff"},
	} {
		if s := pack.Put(c.n, c.v); s != c.want {
			t.Errorf("Put(%d, %d) is %q, not %q", c.n, c.v, s, c.want)
		}
	}
	for _, n := range wrongWidths {
		if s := pack.Put(n, 1); s != "" {
			t.Errorf("Put(%d, 1) is %q, not empty", n, s)
		}
	}
}

// P2.1
func TestIntAndFlag(t *testing.T) {
	for _, c := range []struct{ got, want string }{
		{pack.Int(0), "\x00\x00\x00\x00\x00\x00\x00\x00"},
		{pack.Int(1), "\x00\x00\x00\x00\x00\x00\x00\x01"},
		{pack.Int(-1), "\xff\xff\xff\xff\xff\xff\xff\xff"},
		{pack.Int(-2), "\xff\xff\xff\xff\xff\xff\xff\xfe"},
		{pack.Int(math.MaxInt64), "\x7f\xff\xff\xff\xff\xff\xff\xff"},
		{pack.Int(math.MinInt64), "\x80\x00\x00\x00\x00\x00\x00\x00"},
		{pack.Flag(true), "\x01"},
		{pack.Flag(false), "\x00"},
	} {
		if c.got != c.want {
			t.Errorf("%q, not %q", c.got, c.want)
		}
	}
}

// P2.1
func TestText(t *testing.T) {
	for _, c := range []struct{ s, length string }{
		{"", "\x00\x00"},
		{"a", "\x00\x01"},
		{"\x00\xff", "\x00\x02"},
		{strings.Repeat("x", 255), "\x00\xff"},
		{strings.Repeat("x", 256), "\x01\x00"},
		{strings.Repeat("x", 4095), "\x0f\xff"},
		{strings.Repeat("x", 4096), "\x10\x00"},
	} {
		if s, e := pack.Text(c.s); s != c.length+c.s || e != api.OK {
			t.Errorf("Text of %d bytes: %d bytes and %v", len(c.s), len(s), e)
		}
	}
	for _, n := range []int{4097, 65535, 65536, 65537, 1 << 20} {
		if s, e := pack.Text(strings.Repeat("x", n)); s != "" || e != api.ErrLong {
			t.Errorf("Text of %d bytes: %d bytes and %v", n, len(s), e)
		}
	}
}

// P2.2
func TestTake(t *testing.T) {
	const all = "\x81\x02\x03\x04\x05\x06\x07\xf8more"
	for _, c := range []struct {
		n    int
		want uint64
	}{
		{1, 0x81},
		{2, 0x8102},
		{4, 0x81020304},
		{8, 0x81020304050607f8},
	} {
		x := &pack.Taker{Rest: all}
		if v := x.Take(c.n); v != c.want {
			t.Errorf("Take(%d) is %x, not %x", c.n, v, c.want)
		}
		check(t, "Take", x, all[c.n:], api.OK)

		exact := &pack.Taker{Rest: all[:c.n]}
		if v := exact.Take(c.n); v != c.want {
			t.Errorf("Take(%d) of just these is %x, not %x", c.n, v, c.want)
		}
		check(t, "Take of all", exact, "", api.OK)

		for i := range c.n {
			short := &pack.Taker{Rest: all[:i]}
			if v := short.Take(c.n); v != 0 {
				t.Errorf("Take(%d) of %d bytes is %x", c.n, i, v)
			}
			check(t, "Take of too few", short, all[:i], api.ErrShort)
		}
	}
}

// P2.2: ErrRange is ahead of ErrShort.
func TestTakeOfWrongWidth(t *testing.T) {
	for _, n := range wrongWidths {
		for _, rest := range []string{"", "a", "0123456789abcdef"} {
			x := &pack.Taker{Rest: rest}
			if v := x.Take(n); v != 0 {
				t.Errorf("Take(%d) is %x", n, v)
			}
			check(t, "Take of a wrong width", x, rest, api.ErrRange)
		}
	}
}

// P2.2
func TestTakeInt(t *testing.T) {
	for _, c := range []struct {
		s    string
		want int64
	}{
		{"\x00\x00\x00\x00\x00\x00\x00\x02", 2},
		{"\xff\xff\xff\xff\xff\xff\xff\xff", -1},
		{"\x80\x00\x00\x00\x00\x00\x00\x00", math.MinInt64},
		{"\x7f\xff\xff\xff\xff\xff\xff\xff", math.MaxInt64},
	} {
		x := &pack.Taker{Rest: c.s + "z"}
		if v := x.Int(); v != c.want {
			t.Errorf("Int of %q is %d, not %d", c.s, v, c.want)
		}
		check(t, "Int", x, "z", api.OK)
	}
	for i := range 8 {
		rest := strings.Repeat("\xff", i)
		x := &pack.Taker{Rest: rest}
		if v := x.Int(); v != 0 {
			t.Errorf("Int of %d bytes is %d", i, v)
		}
		check(t, "Int of too few", x, rest, api.ErrShort)
	}
}

// P2.2
func TestTakeFlag(t *testing.T) {
	for b := range 256 {
		rest := string([]byte{byte(b), 1})
		x := &pack.Taker{Rest: rest}
		if v := x.Flag(); v != (b == 1) {
			t.Errorf("Flag of the byte %d is %v", b, v)
		}
		if b < 2 {
			check(t, "Flag", x, "\x01", api.OK)
		} else {
			check(t, "Flag of another byte", x, rest, api.ErrForm)
		}
	}
	x := &pack.Taker{}
	if x.Flag() {
		t.Error("Flag of nothing is true")
	}
	check(t, "Flag of nothing", x, "", api.ErrShort)
}

// P2.2
func TestTakeText(t *testing.T) {
	for _, n := range []int{0, 1, 255, 256, 4095, 4096} {
		s := strings.Repeat("\xe9", n)
		bytes, _ := pack.Text(s)
		x := &pack.Taker{Rest: bytes + "\x00\x01b"}
		if got := x.Text(); got != s {
			t.Errorf("Text of %d bytes has %d", n, len(got))
		}
		check(t, "Text", x, "\x00\x01b", api.OK)

		for _, cut := range []int{0, 1, 2, len(bytes) / 2, len(bytes) - 1} {
			if cut >= len(bytes) {
				continue
			}
			short := &pack.Taker{Rest: bytes[:cut]}
			if got := short.Text(); got != "" {
				t.Errorf("Text of %d bytes, cut off behind %d, is %q", n, cut, got)
			}
			check(t, "Text of too few", short, bytes[:cut], api.ErrShort)
		}
	}
}

// P2.2: ErrLong is told ahead of a text's bytes, whether they are there or not.
func TestTakeTextTooLong(t *testing.T) {
	for _, n := range []int{4097, 4098, 8192, 65535} {
		length := string([]byte{byte(n >> 8), byte(n)})
		for _, there := range []int{0, 1, 4096, n} {
			rest := length + strings.Repeat("x", there)
			x := &pack.Taker{Rest: rest}
			if got := x.Text(); got != "" {
				t.Errorf("Text of the length %d has %d bytes", n, len(got))
			}
			check(t, "Text of a great length", x, rest, api.ErrLong)
		}
	}
}

// P2.2: a taker that has an error keeps it, and takes nothing more.
func TestTakerWithError(t *testing.T) {
	const rest = "\x01\x01\x00\x01a\x00\x00\x00\x00\x00"
	errors := []api.Errno{api.ErrShort, api.ErrLong, api.ErrForm, api.ErrRange, api.ErrState, -1, 99}
	for _, e := range errors {
		x := &pack.Taker{Rest: rest, Err: e}
		for _, n := range append([]int{1, 2, 4, 8}, wrongWidths...) {
			if v := x.Take(n); v != 0 {
				t.Errorf("with %v Take(%d) is %d", e, n, v)
			}
			check(t, "Take", x, rest, e)
		}
		if v := x.Int(); v != 0 {
			t.Errorf("with %v Int is %d", e, v)
		}
		check(t, "Int", x, rest, e)
		if x.Flag() {
			t.Errorf("with %v Flag is true", e)
		}
		check(t, "Flag", x, rest, e)
		if s := x.Text(); s != "" {
			t.Errorf("with %v Text is %q", e, s)
		}
		check(t, "Text", x, rest, e)
		if got := x.End(); got != e {
			t.Errorf("with %v End is %v", e, got)
		}
		check(t, "End", x, rest, e)
	}
}

// P2.2: what went wrong once goes on being wrong, though there is enough for other calls.
func TestFirstErrorStays(t *testing.T) {
	x := &pack.Taker{Rest: "\x02\x01"}
	x.Take(4)
	check(t, "Take", x, "\x02\x01", api.ErrShort)
	if v := x.Take(2); v != 0 {
		t.Errorf("Take(2) is %d", v)
	}
	x.Flag()
	check(t, "Flag", x, "\x02\x01", api.ErrShort)

	y := &pack.Taker{Rest: "\x01\x02\x01"}
	if !y.Flag() || y.Flag() || y.Take(1) != 0 {
		t.Error("the second byte is no yes or no")
	}
	check(t, "Flag", y, "\x02\x01", api.ErrForm)
}

// P2.2
func TestEnd(t *testing.T) {
	for _, c := range []struct {
		x    pack.Taker
		want api.Errno
	}{
		{pack.Taker{}, api.OK},
		{pack.Taker{Rest: "a"}, api.ErrForm},
		{pack.Taker{Err: api.ErrShort}, api.ErrShort},
		{pack.Taker{Rest: "a", Err: api.ErrLong}, api.ErrLong},
	} {
		x := c.x
		if e := x.End(); e != c.want {
			t.Errorf("End of %+v is %v, not %v", c.x, e, c.want)
		}
		if x != c.x {
			t.Errorf("End made %+v of %+v", x, c.x)
		}
	}
	x := &pack.Taker{Rest: "\x00\x01"}
	if x.End() != api.ErrForm || x.Take(2) != 1 || x.End() != api.OK {
		t.Errorf("behind an End that finds something left, a taker goes on: %+v", x)
	}
}

// P2.3
func TestPutIsTakenAsItWas(t *testing.T) {
	r := rand.New(rand.NewSource(1))
	for range 500 {
		v := r.Uint64() >> r.Intn(64)
		s := strings.Repeat(string([]byte{byte(r.Intn(256))}), r.Intn(api.MaxText+1))
		text, _ := pack.Text(s)
		yes := r.Intn(2) == 1
		x := &pack.Taker{Rest: pack.Put(1, v) + text + pack.Put(2, v) + pack.Flag(yes) + pack.Put(4, v) + pack.Int(int64(v)) + pack.Put(8, v) + pack.Int(-int64(v))}
		if got := x.Take(1); got != v%(1<<8) {
			t.Fatalf("of %x one byte: %x", v, got)
		}
		if got := x.Text(); got != s {
			t.Fatalf("of %d bytes %d", len(s), len(got))
		}
		if got := x.Take(2); got != v%(1<<16) {
			t.Fatalf("of %x two bytes: %x", v, got)
		}
		if got := x.Flag(); got != yes {
			t.Fatalf("of %v: %v", yes, got)
		}
		if got := x.Take(4); got != v%(1<<32) {
			t.Fatalf("of %x four bytes: %x", v, got)
		}
		if got := x.Int(); got != int64(v) {
			t.Fatalf("of %d: %d", int64(v), got)
		}
		if got := x.Take(8); got != v {
			t.Fatalf("of %x eight bytes: %x", v, got)
		}
		if got := x.Int(); got != -int64(v) {
			t.Fatalf("of %d: %d", -int64(v), got)
		}
		if e := x.End(); e != api.OK {
			t.Fatalf("at the end: %v", e)
		}
	}
}

// P2.3: the ends of each kind.
func TestEndsAreTakenAsTheyWere(t *testing.T) {
	for _, n := range []int{1, 2, 4, 8} {
		for _, v := range []uint64{0, 1, 1 << (8*n - 1), math.MaxUint64 >> (64 - 8*n)} {
			x := &pack.Taker{Rest: pack.Put(n, v)}
			if got := x.Take(n); got != v || x.End() != api.OK {
				t.Errorf("of %x in %d bytes: %x, %v", v, n, got, x.End())
			}
		}
	}
	for _, v := range []int64{math.MinInt64, math.MinInt64 + 1, -1, 0, 1, math.MaxInt64} {
		x := &pack.Taker{Rest: pack.Int(v)}
		if got := x.Int(); got != v || x.End() != api.OK {
			t.Errorf("of %d: %d, %v", v, got, x.End())
		}
	}
	for _, n := range []int{0, 1, 4095, 4096} {
		s := strings.Repeat("\x00\xff", n)[:n]
		bytes, _ := pack.Text(s)
		x := &pack.Taker{Rest: bytes}
		if got := x.Text(); got != s || x.End() != api.OK {
			t.Errorf("of %d bytes: %d, %v", n, len(got), x.End())
		}
	}
}
