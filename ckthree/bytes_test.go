package ckthree_test

import (
	"fmt"
	"slices"
	"strings"
	"testing"
	"unsafe"

	"bosun/api"
	"bosun/ckthree"
	"bosun/spec"
)

// seqOne are the bytes of the Seq 1, headOne those ahead of the containers of a state of one pod.
const (
	seqOne  = "\x00\x00\x00\x00\x00\x00\x00\x01"
	headOne = seqOne + "\x00\x01" + "\x00\x01f" + "\x00\x01n" + "\x00\x01s" + "\x00" + "\x00\x01" + "\x00"
)

// P19.1: states and their bytes, byte by byte.
func TestKnownBytes(t *testing.T) {
	for _, x := range []struct {
		s ckthree.State
		b string
	}{
		{ckthree.State{}, "\x00\x00\x00\x00\x00\x00\x00\x00\x00\x00"},
		{ckthree.State{Seq: 0x0102030405060708}, "\x01\x02\x03\x04\x05\x06\x07\x08\x00\x00"},
		{ckthree.State{Seq: 1<<64 - 1}, "\xff\xff\xff\xff\xff\xff\xff\xff\x00\x00"},
		{one(podOf("f")), headOne + "\x01" + "\x00\x01c\x00\x01i" + "\x00\x00" + "\x00\x00\x00\x01" + "\x00\x00\x00\x01" + "\x00"},
		{
			one(ckthree.Pod{File: "a/b.json", Pod: spec.Pod{Name: "w.b", Namespace: "no", Restart: spec.Never, Grace: 258, Host: true, Containers: []spec.Container{{
				Name: "x", Image: "y:1", Command: []string{"", "do"}, Ports: []spec.Port{{Number: 772, Proto: spec.UDP}, {Number: 1}},
				Cpu: 258, Memory: 66051, Env: []spec.Env{{Name: "A", Value: ""}, {Name: "B_", Value: "é"}},
			}}}}),
			seqOne + "\x00\x01" + "\x00\x08a/b.json" + "\x00\x03w.b" + "\x00\x02no" + "\x02" + "\x01\x02" + "\x01" + "\x01" +
				"\x00\x01x" + "\x00\x03y:1" + "\x02" + "\x00\x00" + "\x00\x02do" + "\x02" + "\x03\x04\x01" + "\x00\x01\x00" +
				"\x00\x00\x01\x02" + "\x00\x01\x02\x03" + "\x02" + "\x00\x01A\x00\x00" + "\x00\x02B_\x00\x02\xc3\xa9",
		},
		{
			of(func(p *spec.Pod) {
				p.Restart, p.Grace, p.Host = spec.OnFailure, 3600, true
				p.Containers = []spec.Container{
					{Name: "c", Image: "i", Cpu: 64000, Memory: 1 << 20, Ports: []spec.Port{{Number: 65535, Proto: spec.UDP}, {Number: 65535}}},
					{Name: "d", Image: "j", Cpu: 1, Memory: 256, Command: []string{"\x00"}, Env: []spec.Env{{Name: "V", Value: "w"}}},
				}
			}),
			seqOne + "\x00\x01\x00\x01f\x00\x01n\x00\x01s\x01\x0e\x10\x01\x02" +
				"\x00\x01c\x00\x01i\x00\x02\xff\xff\x01\xff\xff\x00\x00\x00\xfa\x00\x00\x10\x00\x00\x00" +
				"\x00\x01d\x00\x01j\x01\x00\x01\x00\x00\x00\x00\x00\x01\x00\x00\x01\x00\x01\x00\x01V\x00\x01w",
		},
		{
			ckthree.State{Seq: 256, Pods: []ckthree.Pod{podOf("a"), podOf("b")}},
			"\x00\x00\x00\x00\x00\x00\x01\x00\x00\x02" +
				"\x00\x01a\x00\x01n\x00\x01s\x00\x00\x01\x00\x01\x00\x01c\x00\x01i\x00\x00\x00\x00\x00\x01\x00\x00\x00\x01\x00" +
				"\x00\x01b\x00\x01n\x00\x01s\x00\x00\x01\x00\x01\x00\x01c\x00\x01i\x00\x00\x00\x00\x00\x01\x00\x00\x00\x01\x00",
		},
		{
			of(func(p *spec.Pod) {
				p.Containers[0].Command = []string{strings.Repeat("x", 4096), "", strings.Repeat("y", 256)}
			}),
			headOne + "\x01\x00\x01c\x00\x01i\x03" + "\x10\x00" + strings.Repeat("x", 4096) + "\x00\x00" + "\x01\x00" + strings.Repeat("y", 256) + "\x00\x00\x00\x00\x01\x00\x00\x00\x01\x00",
		},
	} {
		if b, e := ckthree.Encode(x.s); b != x.b || e != api.OK {
			t.Errorf("a state is encoded as %q, %v, not %q", short(b), e, short(x.b))
		}
		decoded(t, "known bytes", x.b, x.s, api.OK)
	}
	for n, head := range map[int]string{255: "\x00\xff", 256: "\x01\x00", 1024: "\x04\x00"} {
		b, e := ckthree.Encode(many(n))
		if !strings.HasPrefix(b, "\x00\x00\x00\x00\x00\x00\x00\x09"+head+"\x00\x04faaa\x00\x01n\x00\x01s") || len(b) != 10+n*34 || e != api.OK {
			t.Errorf("%d pods are encoded as %q, %v", n, short(b), e)
		}
	}
}

// P19.1: the bytes of full lists, of 16 items each.
func TestFullLists(t *testing.T) {
	items := func(item func(i int) string) string {
		var l []string
		for i := range 16 {
			l = append(l, item(i))
		}
		return strings.Join(l, "")
	}
	rest := "\x00\x00\x00\x01\x00\x00\x00\x01"
	for _, x := range []struct {
		what, b string
		do      func(p *spec.Pod)
	}{
		{"texts", "\x01\x00\x01c\x00\x01i\x10" + items(func(i int) string { return "\x00\x01" + "abcdefghijklmnop"[i:i+1] }) + "\x00" + rest + "\x00",
			func(p *spec.Pod) { fill(&p.Containers[0].Command, 16, command) }},
		{"ports", "\x01\x00\x01c\x00\x01i\x00\x10" + items(func(i int) string { return "\x03" + string([]byte{0xe8 + byte(i)}) + "\x00" }) + rest + "\x00",
			func(p *spec.Pod) { fill(&p.Containers[0].Ports, 16, port) }},
		{"variables", "\x01\x00\x01c\x00\x01i\x00\x00" + rest + "\x10" + items(func(i int) string { return "\x00\x02N" + "abcdefghijklmnop"[i:i+1] + "\x00\x01v" }),
			func(p *spec.Pod) { fill(&p.Containers[0].Env, 16, env) }},
		{"containers", "\x10" + items(func(i int) string {
			return "\x00\x03n" + "abcdefghijklmnop"[i:i+1] + "a\x00\x01i\x00\x00" + rest + "\x00"
		}),
			func(p *spec.Pod) { p.Containers = nil; fill(&p.Containers, 16, numbered) }},
	} {
		b, e := ckthree.Encode(of(x.do))
		if b != headOne+x.b || e != api.OK {
			t.Errorf("16 %s are encoded as %q, %v, not %q", x.what, b, e, headOne+x.b)
		}
		decoded(t, "16 "+x.what, headOne+x.b, of(x.do), api.OK)
	}
}

// samples are states that may be, of all kinds.
func samples() []ckthree.State {
	return []ckthree.State{
		{}, {Seq: 5}, one(podOf("f")), plain(), many(3),
		of(func(p *spec.Pod) { p.Containers = nil; fill(&p.Containers, 16, numbered) }),
		of(func(p *spec.Pod) {
			c := &p.Containers[0]
			fill(&c.Command, 16, command)
			fill(&c.Ports, 16, port)
			fill(&c.Env, 16, env)
		}),
	}
}

// P19.1: bytes that end early, at each place, and bytes that are left.
func TestCutOff(t *testing.T) {
	for _, s := range samples() {
		b := raw(s)
		for n := range len(b) {
			refused(t, fmt.Sprint(n, " bytes"), b[:n], api.ErrShort)
		}
		for c := range 256 {
			refused(t, "a byte left", b+string([]byte{byte(c)}), api.ErrForm)
		}
		for _, left := range []string{"\x00\x00", "\x00\x01a", b, raw(plain())[10:], strings.Repeat("\x00", 1<<16)} {
			refused(t, "bytes left", b+left, api.ErrForm)
		}
	}
}

// P19.1, P19.2: each byte of encoded states changed to each other one, against the model.
func TestEachByte(t *testing.T) {
	seen := map[api.Errno]int{}
	for _, s := range samples() {
		b := []byte(raw(s))
		for i, was := range b {
			for c := range 256 {
				b[i] = byte(c)
				want, e := modelDecode(string(b))
				seen[e]++
				decoded(t, fmt.Sprintf("the byte %d changed", i), string(b), want, e)
			}
			b[i] = was
		}
	}
	for _, e := range []api.Errno{api.OK, api.ErrShort, api.ErrLong, api.ErrForm, api.ErrFull, api.ErrName, api.ErrRange, api.ErrTwice, api.ErrText} {
		if seen[e] < 100 {
			t.Errorf("only %d times it was %v", seen[e], e)
		}
	}
}

// behinds are what may stand behind a place in bytes, where the rest of a state's bytes was.
func behinds(rest string) []string {
	return []string{"", "\x00", "\x00\x00", "\xff\xff", "\xff\xff\xff\xff\xff\xff", rest, rest + "\x00", rest + rest, strings.Repeat("\x00", 5000)}
}

// P19.1: a number of pods above 1024 is refused at once, whatever is behind it.
func TestTooManyPods(t *testing.T) {
	for n := 1025; n < 65536; n++ {
		refused(t, "a number of pods alone", seqOne+num(2, uint64(n)), api.ErrFull)
	}
	for _, n := range []int{1025, 1026, 1280, 2048, 4096, 32768, 65535} {
		for _, rest := range []string{raw(plain())[10:], raw(many(1024))[10:], raw(many(1025))[10:], raw(many(n))[10:]} {
			for _, behind := range behinds(rest) {
				refused(t, fmt.Sprint(n, " pods"), seqOne+num(2, uint64(n))+behind, api.ErrFull)
			}
		}
	}
	refused(t, "half a number of pods", seqOne+"\xff", api.ErrShort)
	refused(t, "half a Seq", "\xff\xff\xff\xff", api.ErrShort)
	refused(t, "no bytes", "", api.ErrShort)
}

// each goes over those parts of plain's bytes that are of a kind, with what stands ahead of a part and behind it.
func each(kind kind, do func(ahead string, p part, behind string)) {
	l := partsOf(plain())
	for i, p := range l {
		if p.kind == kind {
			do(join(l[:i]), p, join(l[i+1:]))
		}
	}
}

// P19.1: a number of items above 16 is refused at once, at each place, whatever is behind it.
func TestTooManyItems(t *testing.T) {
	places := 0
	each(count, func(ahead string, p part, rest string) {
		if len(p.bytes) != 1 {
			return
		}
		places++
		for n := 17; n < 256; n++ {
			for _, behind := range behinds(rest) {
				refused(t, fmt.Sprintf("%d items behind %d bytes", n, len(ahead)), ahead+num(1, uint64(n))+behind, api.ErrFull)
			}
		}
		refused(t, "no number of items", ahead, api.ErrShort)
	})
	if places != 4+3*7 {
		t.Errorf("there were %d numbers of items", places)
	}
}

// P19.1: numbers of items that say more, or less, than there is: what stands behind is taken as something else.
func TestCountOfOthers(t *testing.T) {
	for n := range 1025 {
		for _, k := range []int{0, 1, 5, 300, 1024} {
			if k > 5 && n%50 != 0 && n != 1023 && n != 1024 {
				continue // such a state takes its time
			}
			b := raw(many(k))
			b = b[:8] + num(2, uint64(n)) + b[10:]
			what := fmt.Sprintf("%d pods said, %d there", n, k)
			switch {
			case n > k:
				refused(t, what, b, api.ErrShort)
			case n < k:
				refused(t, what, b, api.ErrForm)
			default:
				decoded(t, what, b, many(k), api.OK)
			}
		}
	}
	each(count, func(ahead string, p part, rest string) {
		for n := range 17 {
			b := ahead + num(len(p.bytes), uint64(n)) + rest
			want, e := modelDecode(b)
			decoded(t, fmt.Sprintf("%d items said", n), b, want, e)
		}
	})
}

// P19.1: a byte that is no yes or no is refused, at each place, ahead of what is behind it.
func TestNoFlag(t *testing.T) {
	each(flag, func(ahead string, p part, rest string) {
		for c := 2; c < 256; c++ {
			for _, behind := range append(behinds(rest), "\x11", rest[:len(rest)-1]) {
				refused(t, fmt.Sprintf("a yes or no %d behind %d bytes", c, len(ahead)), ahead+string([]byte{byte(c)})+behind, api.ErrForm)
			}
		}
		refused(t, "no yes or no", ahead, api.ErrShort)
	})
}

// P19.1: texts of which more is said than there is, or than there may be, at each place.
func TestTextsTaken(t *testing.T) {
	each(text, func(ahead string, p part, rest string) {
		for _, n := range []int{4097, 4098, 8192, 32768, 65535} {
			for _, behind := range append(behinds(rest), strings.Repeat("a", 4096), strings.Repeat("a", n-1), strings.Repeat("a", n), strings.Repeat("a", n)+rest) {
				refused(t, fmt.Sprintf("a text of %d bytes behind %d", n, len(ahead)), ahead+num(2, uint64(n))+behind, api.ErrLong)
			}
		}
		for _, n := range []int{1, 2, 64, 65, 255, 256, 4095, 4096} {
			for _, k := range []int{0, 1, n - 1} {
				if k < n {
					refused(t, fmt.Sprintf("a text of %d bytes, of which %d are there", n, k), ahead+num(2, uint64(n))+strings.Repeat("a", k), api.ErrShort)
				}
			}
		}
		refused(t, "half a length", ahead+"\xff", api.ErrShort)
	})
}

// P19.1: what is taken wrongly is told ahead of what is left, and that ahead of Check's errors.
func TestOrder(t *testing.T) {
	for i := range plain().Pods {
		for _, x := range allSpoils(i) {
			s := plain()
			x.do(&s)
			if !takeable(s) {
				continue // that is told as it is taken
			}
			b := raw(s)
			refused(t, x.what, b, x.want)
			refused(t, x.what+", and a byte left", b+"\x00", api.ErrForm)
			for n := 0; n < len(b); n += 1 + n%7 {
				refused(t, x.what+", cut off", b[:n], api.ErrShort)
			}
			more := b[:8] + num(2, uint64(len(s.Pods)+1)) + b[10:]
			behind := txt("z") + txt("n") + txt("s") + "\x00\x00\x01"
			refused(t, x.what+", and too long a text behind it", more+txt("z")+num(2, 4097), api.ErrLong)
			refused(t, x.what+", and no yes or no behind it", more+behind+"\x02", api.ErrForm)
			refused(t, x.what+", and too many containers behind it", more+behind+"\x00\x11", api.ErrFull)
			refused(t, x.what+", too many pods said", b[:8]+"\x04\x01"+b[10:], api.ErrFull)
		}
	}
	// Two things of four are taken wrongly, one behind the other: the first one is told.
	head := txt("f") + txt("n") + txt("s") + "\x03\x00\x00"
	pod := head + "\x01\x01" + txt("") + txt("") + "\x01" + txt("\xff") + "\x01\x00\x00\x02" + "\x00\x00\x00\x00\xff\xff\xff\xff" + "\x01" + txt("") + txt("")
	faults := map[string]api.Errno{
		num(2, 4097):      api.ErrLong,
		head + "\x02":     api.ErrForm,
		head + "\x00\x11": api.ErrFull,
		head + "\x00\x01" + txt("c") + txt("i") + "\xff":                                         api.ErrFull,
		head + "\x00\x01" + txt("c") + txt("i") + "\x00\x11":                                     api.ErrFull,
		head + "\x00\x01" + txt("c") + txt("i") + "\x00\x00\x00\x00\x00\x01\x00\x00\x00\x01\x20": api.ErrFull,
		head + "\x00\x01" + txt("c") + txt("i") + "\x01\xff\xff":                                 api.ErrLong,
	}
	for x, want := range faults {
		for y := range faults {
			for _, ahead := range []string{"", pod, pod + pod} {
				refused(t, "two faults", seqOne+"\x00\x09"+ahead+x+y, want)
			}
		}
		refused(t, "a text that ends early, which seems to hold a fault", seqOne+"\x00\x09"+pod+num(2, 4096)+x, api.ErrShort)
	}
}

// P19.1: bytes that are a state's but for Check.
func TestBytesOfWrongStates(t *testing.T) {
	least := "\x00\x00\x00\x01\x00\x00\x00\x01" // a Cpu and a Memory
	none := "\x00\x00" + least + "\x00"
	good := "\x01" + txt("c") + txt("i") + none
	pod := func(file, name, space, numbers, rest string) string {
		return txt(file) + txt(name) + txt(space) + numbers + rest
	}
	in := func(c string) string { return "\x00\x01" + pod("f", "n", "s", "\x00\x00\x01\x00", c) }
	for _, x := range []struct {
		what, b string
		want    api.Errno
	}{
		{"a state", in(good), api.OK},
		{"a File", "\x00\x01" + pod("A", "n", "s", "\x00\x00\x01\x00", good), api.ErrName},
		{"Files that are alike", "\x00\x02" + pod("f", "n", "s", "\x00\x00\x01\x00", good) + pod("f", "n", "s", "\x00\x00\x01\x00", good), api.ErrForm},
		{"Files that fall", "\x00\x02" + pod("f", "n", "s", "\x00\x00\x01\x00", good) + pod("e", "n", "s", "\x00\x00\x01\x00", good), api.ErrForm},
		{"a Name", "\x00\x01" + pod("f", "-", "s", "\x00\x00\x01\x00", good), api.ErrName},
		{"a Namespace", "\x00\x01" + pod("f", "n", "a.b", "\x00\x00\x01\x00", good), api.ErrName},
		{"a Restart", "\x00\x01" + pod("f", "n", "s", "\x03\x00\x01\x00", good), api.ErrRange},
		{"the greatest byte as a Restart", "\x00\x01" + pod("f", "n", "s", "\xff\x00\x01\x00", good), api.ErrRange},
		{"no Grace", "\x00\x01" + pod("f", "n", "s", "\x00\x00\x00\x00", good), api.ErrRange},
		{"a Grace", "\x00\x01" + pod("f", "n", "s", "\x00\x0e\x11\x00", good), api.ErrRange},
		{"no containers", in("\x00"), api.ErrNone},
		{"a container's Name", in("\x01" + txt("") + txt("i") + none), api.ErrName},
		{"containers of one Name", in("\x02" + txt("c") + txt("i") + none + txt("c") + txt("j") + none), api.ErrTwice},
		{"an Image", in("\x01" + txt("c") + txt("") + none), api.ErrForm},
		{"no Cpu", in("\x01" + txt("c") + txt("i") + "\x00\x00\x00\x00\x00\x00\x00\x00\x00\x01\x00"), api.ErrRange},
		{"a Cpu", in("\x01" + txt("c") + txt("i") + "\x00\x00\x00\x00\xfa\x01\x00\x00\x00\x01\x00"), api.ErrRange},
		{"the greatest number as Cpu", in("\x01" + txt("c") + txt("i") + "\x00\x00\xff\xff\xff\xff\x00\x00\x00\x01\x00"), api.ErrRange},
		{"no Memory", in("\x01" + txt("c") + txt("i") + "\x00\x00\x00\x00\x00\x01\x00\x00\x00\x00\x00"), api.ErrRange},
		{"a Memory", in("\x01" + txt("c") + txt("i") + "\x00\x00\x00\x00\x00\x01\x00\x10\x00\x01\x00"), api.ErrRange},
		{"a Command's text", in("\x01" + txt("c") + txt("i") + "\x01" + txt("\xff") + none[1:]), api.ErrText},
		{"no Number", in("\x01" + txt("c") + txt("i") + "\x00\x01\x00\x00\x00" + none[2:]), api.ErrRange},
		{"a Proto", in("\x01" + txt("c") + txt("i") + "\x00\x01\x00\x01\x02" + none[2:]), api.ErrRange},
		{"Ports alike", in("\x01" + txt("c") + txt("i") + "\x00\x02\x00\x01\x01\x00\x01\x01" + none[2:]), api.ErrTwice},
		{"a variable's Name", in("\x01" + txt("c") + txt("i") + none[:10] + "\x01" + txt("1") + txt("")), api.ErrName},
		{"variables of one Name", in("\x01" + txt("c") + txt("i") + none[:10] + "\x02" + txt("N") + txt("") + txt("N") + txt("v")), api.ErrTwice},
		{"a Value", in("\x01" + txt("c") + txt("i") + none[:10] + "\x01" + txt("N") + txt("\x80")), api.ErrText},
	} {
		if x.want != api.OK {
			refused(t, x.what, seqOne+x.b, x.want)
		} else {
			decoded(t, x.what, seqOne+x.b, one(podOf("f")), api.OK)
		}
	}
}

// scribble has the room behind a list's end, and its items, be another one.
func scribble[T any](l []T, other T) {
	for i := range room(l) {
		room(l)[i] = other
	}
}

// R3: texts that are decoded hold nothing of the bytes; no list of what is decoded is part of the room of another one.
func TestDecodedMemory(t *testing.T) {
	b := raw(plain())
	s, _ := ckthree.Decode(b)
	again, _ := ckthree.Decode(b)
	begin := uintptr(unsafe.Pointer(unsafe.StringData(b)))
	within := func(text string) bool {
		at := uintptr(unsafe.Pointer(unsafe.StringData(text)))
		return text != "" && begin <= at && at < begin+uintptr(len(b))
	}
	for i, p := range s.Pods {
		texts := []string{p.File, p.Pod.Name, p.Pod.Namespace}
		for _, c := range p.Pod.Containers {
			texts = append(append(texts, c.Name, c.Image), c.Command...)
			for _, v := range c.Env {
				texts = append(texts, v.Name, v.Value)
			}
		}
		if slices.ContainsFunc(texts, within) {
			t.Errorf("a text of pod %d is a piece of the bytes", i)
		}
	}
	for i := range s.Pods {
		p, want := &s.Pods[i].Pod, &plain().Pods[i].Pod
		for k := range p.Containers {
			c := &p.Containers[k]
			scribble(c.Command, "other")
			scribble(c.Ports, spec.Port{Number: 7})
			scribble(c.Env, spec.Env{Name: "other"})
			c.Command, c.Ports, c.Env = want.Containers[k].Command, want.Containers[k].Ports, want.Containers[k].Env
		}
		if !equal(s, plain()) {
			t.Fatalf("what is written into a list of pod %d changes another one", i)
		}
		scribble(p.Containers, spec.Container{Name: "other"})
		p.Containers = want.Containers
		if !equal(s, plain()) {
			t.Fatalf("what is written into the containers of pod %d changes others", i)
		}
	}
	scribble(s.Pods, ckthree.Pod{})
	if !equal(again, plain()) {
		t.Error("a state changed with another one that was decoded of the same bytes")
	}
	decoded(t, "the bytes, once more", b, plain(), api.OK)
}
