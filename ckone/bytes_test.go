package ckone_test

import (
	"fmt"
	"strings"
	"testing"
	"unsafe"

	"bosun/api"
	"bosun/ckone"
)

// P17.1: states and their bytes, byte by byte.
func TestKnownBytes(t *testing.T) {
	for _, x := range []struct {
		s ckone.State
		b string
	}{
		{ckone.State{}, "\x00\x00\x00\x00\x00\x00"},
		{ckone.State{Seq: 0x01020304}, "\x01\x02\x03\x04\x00\x00"},
		{ckone.State{Seq: 0xffffffff}, "\xff\xff\xff\xff\x00\x00"},
		{one(ckone.Pod{File: "f", Name: "n", Image: "i", Restart: 2}), "\x00\x00\x00\x01\x00\x01\x00\x01f\x00\x01n\x00\x01i\x02"},
		{
			ckone.State{Seq: 256, Pods: []ckone.Pod{{File: "a.json", Name: "w.b", Image: "n:1", Restart: 0}, {File: "b", Name: "x-y", Image: "z/z", Restart: 1}}},
			"\x00\x00\x01\x00\x00\x02" + "\x00\x06a.json\x00\x03w.b\x00\x03n:1\x00" + "\x00\x01b\x00\x03x-y\x00\x03z/z\x01",
		},
		{
			one(ckone.Pod{File: strings.Repeat("f", 64), Name: strings.Repeat("n", 63), Image: strings.Repeat("i", 255)}),
			"\x00\x00\x00\x01\x00\x01\x00\x40" + strings.Repeat("f", 64) + "\x00\x3f" + strings.Repeat("n", 63) + "\x00\xff" + strings.Repeat("i", 255) + "\x00",
		},
	} {
		if b, e := ckone.Encode(x.s); b != x.b || e != api.OK {
			t.Errorf("a state is encoded as %q, %v, not %q", short(b), e, short(x.b))
		}
		decoded(t, "known bytes", x.b, x.s, api.OK)
	}
	for n, head := range map[int]string{255: "\x00\xff", 256: "\x01\x00", 1024: "\x04\x00"} {
		b, e := ckone.Encode(many(n))
		if !strings.HasPrefix(b, "\x00\x00\x00\x09"+head+"\x00\x06f00000\x00\x01n\x00\x01i\x00\x00\x06f00001\x00\x01n\x00\x01i\x01") || len(b) != 6+n*15 || e != api.OK {
			t.Errorf("%d pods are encoded as %q, %v", n, short(b), e)
		}
	}
}

// P17.1: bytes that end early, at each place, and bytes that are left.
func TestCutOff(t *testing.T) {
	for _, s := range []ckone.State{{}, {Seq: 5}, one(ckone.Pod{File: "f", Name: "n", Image: "i"}), plain(), many(40)} {
		b := raw(s)
		for n := range len(b) {
			refused(t, fmt.Sprint(n, " bytes"), b[:n], api.ErrShort)
		}
		for c := range 256 {
			refused(t, "a byte left", b+string([]byte{byte(c)}), api.ErrForm)
		}
		for _, left := range []string{"\x00\x00", "\x00\x01a", b, strings.Repeat("\x00", 1<<16)} {
			refused(t, "bytes left", b+left, api.ErrForm)
		}
	}
}

// P17.1: a number of pods above 1024 is refused at once, whatever is behind it.
func TestCountTooGreat(t *testing.T) {
	for n := 1025; n < 65536; n++ {
		refused(t, "a number of pods alone", "\x00\x00\x00\x01"+number(2, uint64(n)), api.ErrFull)
	}
	for _, n := range []int{1025, 1026, 1280, 2048, 4096, 32768, 65535} {
		for _, behind := range []string{
			"\x00", "\x00\x00", "\xff\xff", text("a"), text("a") + "\x00\x05n", bytesOf(plain().Pods[0]), bytesOf(plain().Pods[0]) + "\xff\xff",
			raw(many(1024))[6:], raw(many(1025))[6:], raw(many(n))[6:], raw(many(n))[6:] + "left", strings.Repeat("\x00", 1<<20),
		} {
			refused(t, fmt.Sprint(n, " pods"), "\x00\x00\x00\x01"+number(2, uint64(n))+behind, api.ErrFull)
		}
	}
	refused(t, "half a number of pods", "\x00\x00\x00\x01\xff", api.ErrShort)
	refused(t, "half a Seq", "\xff\xff", api.ErrShort)
	refused(t, "no bytes", "", api.ErrShort)
}

// P17.1: a number of pods that says more, or less, than there is.
func TestCountOfOthers(t *testing.T) {
	for n := range 1025 {
		for _, k := range []int{0, 1, 5, 1024} {
			b := raw(many(k))
			b = b[:4] + number(2, uint64(n)) + b[6:]
			switch {
			case n > k:
				refused(t, fmt.Sprintf("%d pods said, %d there", n, k), b, api.ErrShort)
			case n < k:
				refused(t, fmt.Sprintf("%d pods said, %d there", n, k), b, api.ErrForm)
			default:
				decoded(t, fmt.Sprint(n, " pods"), b, many(k), api.OK)
			}
		}
	}
}

// P17.1: texts of which more, or less, is said than there is; they are told from the left, ahead of what Check tells.
func TestTexts(t *testing.T) {
	for i := range 6 {
		b := "\x00\x00\x00\x01\x00\x02"
		for k := range i {
			b += text("-") // as a Name or an Image it is wrong, but not ahead of how it is taken
			if k%3 == 2 {
				b += "\xff"
			}
		}
		for _, n := range []int{4097, 4098, 8192, 32768, 65535} {
			for _, behind := range []int{0, 1, 4096, n - 1, n, n + 1, 1 << 17} {
				refused(t, fmt.Sprintf("text %d of %d bytes, of which %d are there", i, n, behind), b+number(2, uint64(n))+strings.Repeat("a", behind), api.ErrLong)
			}
		}
		for _, n := range []int{1, 2, 64, 65, 255, 256, 4095, 4096} {
			for _, behind := range []int{0, 1, n - 1} {
				if behind < n {
					refused(t, fmt.Sprintf("text %d of %d bytes, of which %d are there", i, n, behind), b+number(2, uint64(n))+strings.Repeat("a", behind), api.ErrShort)
				}
			}
		}
	}
	refused(t, "a File of 4096 bytes", raw(one(ckone.Pod{File: strings.Repeat("a", 4096), Name: "n", Image: "i"})), api.ErrName)
	refused(t, "a Name of 4096 bytes", raw(one(ckone.Pod{File: "f", Name: strings.Repeat("a", 4096), Image: "i"})), api.ErrName)
	refused(t, "an Image of 4096 bytes", raw(one(ckone.Pod{File: "f", Name: "n", Image: strings.Repeat("a", 4096)})), api.ErrForm)
}

// P17.1: what is taken wrongly is told ahead of what is left, and that ahead of Check's errors.
func TestOrder(t *testing.T) {
	for i := range plain().Pods {
		for _, x := range spoilsOf(i) {
			s := plain()
			x.do(&s)
			b := raw(s)
			refused(t, x.what, b, x.want)
			refused(t, x.what+", and a byte left", b+"\x00", api.ErrForm)
			for n := range len(b) {
				refused(t, x.what+", cut off", b[:n], api.ErrShort)
			}
			long := text("f") + number(2, 4097)
			refused(t, x.what+", and too long a text behind it", b[:4]+number(2, uint64(len(s.Pods)+1))+b[6:]+long, api.ErrLong)
			refused(t, x.what+", too many pods said", b[:4]+"\x04\x01"+b[6:], api.ErrFull)
		}
	}
	short, long := number(2, 4096)+"a", number(2, 4097)+"a"
	refused(t, "a text that ends early, which seems to hold too long a one", "\x00\x00\x00\x00\x00\x02"+short+long, api.ErrShort)
	refused(t, "too long a text ahead of one that ends early", "\x00\x00\x00\x00\x00\x02"+long+short, api.ErrLong)
}

// R3: texts that are decoded hold nothing of the bytes; lists are no part of each other's room.
func TestDecodedMemory(t *testing.T) {
	b := raw(plain())
	s, _ := ckone.Decode(b)
	again, _ := ckone.Decode(b)
	begin := uintptr(unsafe.Pointer(unsafe.StringData(b)))
	for _, p := range s.Pods {
		for _, text := range []string{p.File, p.Name, p.Image} {
			at := uintptr(unsafe.Pointer(unsafe.StringData(text)))
			if begin <= at && at < begin+uintptr(len(b)) {
				t.Errorf("the text %q is a piece of the bytes", text)
			}
		}
	}
	for i := range s.Pods {
		s.Pods[i] = ckone.Pod{}
	}
	if !equal(again, plain()) {
		t.Error("a state changed with another one that was decoded of the same bytes")
	}
	decoded(t, "the bytes, once more", b, plain(), api.OK)
}
