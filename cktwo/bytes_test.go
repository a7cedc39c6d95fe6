package cktwo_test

import (
	"fmt"
	"strings"
	"testing"
	"unsafe"

	"bosun/api"
	"bosun/cktwo"
)

// seqOne are the bytes of the Seq 1.
const seqOne = "\x00\x00\x00\x00\x00\x00\x00\x01"

// P18.1: states and their bytes, byte by byte.
func TestKnownBytes(t *testing.T) {
	for _, x := range []struct {
		s cktwo.State
		b string
	}{
		{cktwo.State{}, "\x00\x00\x00\x00\x00\x00\x00\x00\x00\x00"},
		{cktwo.State{Seq: 0x0102030405060708}, "\x01\x02\x03\x04\x05\x06\x07\x08\x00\x00"},
		{cktwo.State{Seq: 1<<64 - 1}, "\xff\xff\xff\xff\xff\xff\xff\xff\x00\x00"},
		{
			one(cktwo.Pod{File: "f", Name: "n", Namespace: "s", Restart: 2, Grace: 258, Containers: []cktwo.Container{{Name: "c", Image: "i"}}}),
			seqOne + "\x00\x01" + "\x00\x01f\x00\x01n\x00\x01s\x02\x01\x02\x01\x00\x01c\x00\x01i",
		},
		{
			cktwo.State{Seq: 256, Pods: []cktwo.Pod{
				{File: "a.json", Name: "w.b", Namespace: "no", Restart: 0, Grace: 3600, Containers: []cktwo.Container{{Name: "x", Image: "y:1"}, {Name: "zz", Image: "0"}}},
				{File: "b", Name: "x-y", Namespace: "z", Restart: 1, Grace: 1, Containers: []cktwo.Container{{Name: "x", Image: "y:1"}}},
			}},
			"\x00\x00\x00\x00\x00\x00\x01\x00\x00\x02" + "\x00\x06a.json\x00\x03w.b\x00\x02no\x00\x0e\x10\x02\x00\x01x\x00\x03y:1\x00\x02zz\x00\x010" +
				"\x00\x01b\x00\x03x-y\x00\x01z\x01\x00\x01\x01\x00\x01x\x00\x03y:1",
		},
		{
			of(func(p *cktwo.Pod) { p.Containers[0].Image, p.File = strings.Repeat("i", 255), strings.Repeat("f", 64) }),
			seqOne + "\x00\x01" + "\x00\x40" + strings.Repeat("f", 64) + "\x00\x01n\x00\x01s\x00\x00\x01\x01\x00\x01c\x00\xff" + strings.Repeat("i", 255),
		},
		{
			of(func(p *cktwo.Pod) { p.Containers = fill(nil, 16) }),
			seqOne + "\x00\x01" + "\x00\x01f\x00\x01n\x00\x01s\x00\x00\x01\x10" +
				"\x00\x02n0\x00\x01i\x00\x02n1\x00\x01i\x00\x02n2\x00\x01i\x00\x02n3\x00\x01i\x00\x02n4\x00\x01i\x00\x02n5\x00\x01i\x00\x02n6\x00\x01i\x00\x02n7\x00\x01i" +
				"\x00\x02n8\x00\x01i\x00\x02n9\x00\x01i\x00\x03n10\x00\x01i\x00\x03n11\x00\x01i\x00\x03n12\x00\x01i\x00\x03n13\x00\x01i\x00\x03n14\x00\x01i\x00\x03n15\x00\x01i",
		},
	} {
		if b, e := cktwo.Encode(x.s); b != x.b || e != api.OK {
			t.Errorf("a state is encoded as %q, %v, not %q", short(b), e, short(x.b))
		}
		decoded(t, "known bytes", x.b, x.s, api.OK)
	}
	for n, head := range map[int]string{255: "\x00\xff", 256: "\x01\x00", 1024: "\x04\x00"} {
		b, e := cktwo.Encode(many(n))
		if !strings.HasPrefix(b, "\x00\x00\x00\x00\x00\x00\x00\x09"+head+"\x00\x06f00000\x00\x01n\x00\x01s\x00\x00\x01\x01\x00\x01c\x00\x01i\x00\x06f00001\x00") || len(b) != 10+n*24 || e != api.OK {
			t.Errorf("%d pods are encoded as %q, %v", n, short(b), e)
		}
	}
}

// P18.1: bytes that end early, at each place, and bytes that are left.
func TestCutOff(t *testing.T) {
	for _, s := range []cktwo.State{{}, {Seq: 5}, one(podOf("f")), of(func(p *cktwo.Pod) { p.Containers = fill(nil, 16) }), plain(), many(40)} {
		b := raw(s)
		for n := range len(b) {
			refused(t, fmt.Sprint(n, " bytes"), b[:n], api.ErrShort)
		}
		for c := range 256 {
			refused(t, "a byte left", b+string([]byte{byte(c)}), api.ErrForm)
		}
		for _, left := range []string{"\x00\x00", "\x00\x01a", b, text("c") + text("i"), strings.Repeat("\x00", 1<<16)} {
			refused(t, "bytes left", b+left, api.ErrForm)
		}
	}
}

// P18.1: a number of pods above 1024 is refused at once, whatever is behind it.
func TestTooManyPods(t *testing.T) {
	for n := 1025; n < 65536; n++ {
		refused(t, "a number of pods alone", seqOne+number(2, uint64(n)), api.ErrFull)
	}
	pod := bytesOf(plain().Pods[0])
	for _, n := range []int{1025, 1026, 1280, 2048, 4096, 32768, 65535} {
		for _, behind := range []string{
			"\x00", "\x00\x00", "\xff\xff", text("a"), text("a") + "\x00\x05n", pod, pod + "\xff\xff",
			raw(many(1024))[10:], raw(many(1025))[10:], raw(many(n))[10:], raw(many(n))[10:] + "left", strings.Repeat("\x00", 1<<20),
		} {
			refused(t, fmt.Sprint(n, " pods"), seqOne+number(2, uint64(n))+behind, api.ErrFull)
		}
	}
	refused(t, "half a number of pods", seqOne+"\xff", api.ErrShort)
	refused(t, "half a Seq", "\xff\xff\xff\xff", api.ErrShort)
	refused(t, "no bytes", "", api.ErrShort)
}

// P18.1: a number of containers above 16 is refused at once, whatever is behind it, or wrong ahead of it by Check.
func TestTooManyContainers(t *testing.T) {
	for _, heads := range []string{
		text("f") + text("n") + text("s") + "\x00\x00\x01",
		text("A") + text("-") + text(".") + "\xff\x00\x00",
		text("") + text("") + text("") + "\x03\xff\xff",
	} {
		for n := 17; n < 256; n++ {
			head := heads + string([]byte{byte(n)})
			for _, behind := range []string{"", "\x00", "\xff\xff", text("c") + text("i"), strings.Repeat(text("c")+text("i"), n), strings.Repeat(text("c")+text("i"), n+1)} {
				refused(t, fmt.Sprint(n, " containers"), seqOne+"\x00\x01"+head+behind, api.ErrFull)
				refused(t, fmt.Sprint(n, " containers in the second pod"), seqOne+"\x00\x02"+bytesOf(podOf("e"))+head+behind, api.ErrFull)
				refused(t, fmt.Sprint(n, " containers, a pod behind"), seqOne+"\x00\x02"+head+behind+bytesOf(podOf("g")), api.ErrFull)
			}
		}
		refused(t, "no number of containers", seqOne+"\x00\x01"+heads, api.ErrShort)
	}
	refused(t, "too many containers, and too many pods", seqOne+"\x04\x01"+text("f")+text("n")+text("s")+"\x00\x00\x01\xff", api.ErrFull)
}

// P18.1: numbers of pods, and of containers, that say more, or less, than there is.
func TestCountOfOthers(t *testing.T) {
	for n := range 1025 {
		for _, k := range []int{0, 1, 5, 1024} {
			b := raw(many(k))
			b = b[:8] + number(2, uint64(n)) + b[10:]
			what := fmt.Sprintf("%d pods said, %d there", n, k)
			switch {
			case n > k:
				refused(t, what, b, api.ErrShort)
			case n < k:
				refused(t, what, b, api.ErrForm)
			default:
				decoded(t, what, b, many(k), api.OK)
			}
		}
	}
	for n := range 17 {
		for k := range 17 {
			s := of(func(p *cktwo.Pod) { p.Containers = fill(nil, k) })
			b := raw(s)
			const at = 8 + 2 + 3*3 + 1 + 2
			b = b[:at] + string([]byte{byte(n)}) + b[at+1:]
			what := fmt.Sprintf("%d containers said, %d there", n, k)
			switch {
			case n > k:
				refused(t, what, b, api.ErrShort)
			case n < k:
				refused(t, what, b, api.ErrForm)
			case n == 0:
				refused(t, what, b, api.ErrNone)
			default:
				decoded(t, what, b, s, api.OK)
			}
		}
	}
}

// P18.1: texts of which more is said than there is, or than there may be; they are told from the left, ahead of what
// Check tells.
func TestTexts(t *testing.T) {
	// What stands ahead of each text of two pods of two containers; as it is, Check would tell of it.
	empty, numbers := text(""), "\x03\x00\x00\x02"
	pod := []string{"", empty, empty, empty + numbers, empty, empty, empty}
	var ahead []string
	b := seqOne + "\x00\x02"
	for range 2 {
		for i, s := range pod {
			b += s
			ahead = append(ahead, b)
			if i == len(pod)-1 {
				b += empty
			}
		}
	}
	for i, b := range ahead {
		for _, n := range []int{4097, 4098, 8192, 32768, 65535} {
			for _, behind := range []int{0, 1, 4096, n - 1, n, n + 1, 1 << 17} {
				refused(t, fmt.Sprintf("text %d of %d bytes, of which %d are there", i, n, behind), b+number(2, uint64(n))+strings.Repeat("a", behind), api.ErrLong)
			}
		}
		for _, n := range []int{1, 2, 64, 65, 255, 256, 4095, 4096} {
			for _, behind := range []int{0, 1, n - 1} {
				if behind < n {
					refused(t, fmt.Sprintf("text %d of %d bytes, of which %d are there", i, n, behind), b+number(2, uint64(n))+strings.Repeat("a", behind), api.ErrShort)
				}
			}
		}
	}
	refused(t, "all texts empty", b, api.ErrName)
	long := strings.Repeat("a", 4096)
	for _, x := range []spoil{
		{"a File", api.ErrName, func(s *cktwo.State) { s.Pods[0].File = long }},
		{"a Name", api.ErrName, func(s *cktwo.State) { s.Pods[0].Name = long }},
		{"a Namespace", api.ErrName, func(s *cktwo.State) { s.Pods[0].Namespace = long }},
		{"a container's Name", api.ErrName, func(s *cktwo.State) { s.Pods[0].Containers[0].Name = long }},
		{"an Image", api.ErrForm, func(s *cktwo.State) { s.Pods[0].Containers[0].Image = long }},
	} {
		s := plain()
		x.do(&s)
		hold(t, x.what+" of 4096 bytes", s, x.want)
	}
}

// P18.1: what is taken wrongly is told ahead of what is left, and that ahead of Check's errors.
func TestOrder(t *testing.T) {
	for i := range plain().Pods {
		for _, x := range allSpoils(i) {
			s := plain()
			x.do(&s)
			if mostContainers(s) > 16 {
				continue // that is told as it is taken
			}
			b := raw(s)
			refused(t, x.what, b, x.want)
			refused(t, x.what+", and a byte left", b+"\x00", api.ErrForm)
			for n := range len(b) {
				refused(t, x.what+", cut off", b[:n], api.ErrShort)
			}
			more := b[:8] + number(2, uint64(len(s.Pods)+1)) + b[10:]
			refused(t, x.what+", and too long a text behind it", more+text("f")+number(2, 4097), api.ErrLong)
			refused(t, x.what+", and too many containers behind it", more+text("z")+text("n")+text("s")+"\x00\x00\x01\x11", api.ErrFull)
			refused(t, x.what+", too many pods said", b[:8]+"\x04\x01"+b[10:], api.ErrFull)
		}
	}
	short, long, full := number(2, 4096)+"a", number(2, 4097)+"a", text("f")+text("n")+text("s")+"\x00\x00\x01\x11"
	refused(t, "a text that ends early, which seems to hold too long a one", seqOne+"\x00\x03"+short+long+full, api.ErrShort)
	refused(t, "too long a text, ahead of one that ends early", seqOne+"\x00\x03"+long+short+full, api.ErrLong)
	refused(t, "too many containers, ahead of too long a text", seqOne+"\x00\x03"+full+long+short, api.ErrFull)
	refused(t, "too long a text, ahead of too many containers", seqOne+"\x00\x03"+bytesOf(podOf("a"))+long+full, api.ErrLong)
}

// R3: texts that are decoded hold nothing of the bytes; no list of what is decoded is part of the room of another one.
func TestDecodedMemory(t *testing.T) {
	b := raw(plain())
	s, _ := cktwo.Decode(b)
	again, _ := cktwo.Decode(b)
	begin := uintptr(unsafe.Pointer(unsafe.StringData(b)))
	for _, p := range s.Pods {
		texts := []string{p.File, p.Name, p.Namespace}
		for _, c := range p.Containers {
			texts = append(texts, c.Name, c.Image)
		}
		for _, text := range texts {
			if at := uintptr(unsafe.Pointer(unsafe.StringData(text))); begin <= at && at < begin+uintptr(len(b)) {
				t.Errorf("the text %q is a piece of the bytes", text)
			}
		}
	}
	for _, p := range s.Pods {
		for k, l := len(p.Containers), p.Containers[:cap(p.Containers)]; k < len(l); k++ {
			l[k] = cktwo.Container{Name: "other"}
		}
	}
	if !equal(s, plain()) || !equal(again, plain()) {
		t.Error("what is behind the end of a list changes another one")
	}
	for i, p := range s.Pods {
		for k := range p.Containers {
			p.Containers[k] = cktwo.Container{}
		}
		s.Pods[i] = cktwo.Pod{}
	}
	if !equal(again, plain()) {
		t.Error("a state changed with another one that was decoded of the same bytes")
	}
	decoded(t, "the bytes, once more", b, plain(), api.OK)
}
