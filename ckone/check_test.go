package ckone_test

import (
	"fmt"
	"strings"
	"testing"

	"bosun/api"
	"bosun/ckone"
)

// spoil is a way to spoil a pod of a state, and the error that comes of it.
type spoil struct {
	what string
	want api.Errno
	do   func(s *ckone.State)
}

// spoilsOf spoil the pod of a number, in the order of the section 'Errors'. Of two of them the later one is to be done
// first: then both are done.
func spoilsOf(i int) []spoil {
	in := func(what string, want api.Errno, do func(p *ckone.Pod)) spoil {
		return spoil{fmt.Sprintf("%s of pod %d", what, i), want, func(s *ckone.State) { do(&s.Pods[i]) }}
	}
	files := []spoil{
		in("the File, no name,", api.ErrName, func(p *ckone.Pod) { p.File += "A" }),
		in("the File, no name and below all,", api.ErrName, func(p *ckone.Pod) { p.File = "!" + p.File }),
		in("the empty File", api.ErrName, func(p *ckone.Pod) { p.File = "" }),
	}
	names := []spoil{
		in("the Name", api.ErrName, func(p *ckone.Pod) { p.Name = "-" }),
		in("the empty Name", api.ErrName, func(p *ckone.Pod) { p.Name = "" }),
	}
	forms := []spoil{
		in("the Image", api.ErrForm, func(p *ckone.Pod) { p.Image = "Nginx" }),
		in("the empty Image", api.ErrForm, func(p *ckone.Pod) { p.Image = "" }),
	}
	if i > 0 {
		to := func(what string, other func(ahead string) string) spoil {
			return spoil{fmt.Sprintf("a File %s of pod %d", what, i), api.ErrForm, func(s *ckone.State) { s.Pods[i].File = other(plain().Pods[i-1].File) }}
		}
		forms = append(forms,
			to("as the one ahead", func(ahead string) string { return ahead }),
			to("below that ahead", func(ahead string) string { return "-" + ahead }))
	}
	return append(append(append(files, names...), forms...),
		in("the Restart", api.ErrRange, func(p *ckone.Pod) { p.Restart = 3 }))
}

// P17.1: a state that may be, and each error alone, at each pod.
func TestErrorsAlone(t *testing.T) {
	hold(t, "a state", plain(), api.OK)
	hold(t, "a zero pod", ckone.State{Pods: make([]ckone.Pod, 1)}, api.ErrName)
	for i := range plain().Pods {
		for _, x := range spoilsOf(i) {
			s := plain()
			x.do(&s)
			hold(t, x.what, s, x.want)
		}
	}
}

// P17.1: of each two errors of one pod the one that the section names first is told.
func TestErrorsTogether(t *testing.T) {
	for i := range plain().Pods {
		l := spoilsOf(i)
		for j, x := range l {
			for _, later := range l[j+1:] {
				s := plain()
				later.do(&s)
				x.do(&s)
				hold(t, x.what+", and "+later.what, s, x.want)
			}
		}
	}
}

// P17.1: each error of a pod is told ahead of each one of a later pod.
func TestErrorsOfPods(t *testing.T) {
	for i := range plain().Pods {
		for k := i + 1; k < len(plain().Pods); k++ {
			for _, x := range spoilsOf(i) {
				for _, later := range spoilsOf(k) {
					s := plain()
					later.do(&s)
					x.do(&s)
					hold(t, x.what+", and "+later.what, s, x.want)
				}
			}
		}
	}
}

// many is a state of so many pods.
func many(n int) ckone.State {
	s := ckone.State{Seq: 9, Pods: make([]ckone.Pod, n)}
	for i := range s.Pods {
		s.Pods[i] = ckone.Pod{File: fmt.Sprintf("f%05d", i), Name: "n", Image: "i", Restart: uint8(i % 3)}
	}
	return s
}

// P17.1: how many pods there may be; that there are too many is told ahead of all.
func TestCountOfPods(t *testing.T) {
	for _, n := range []int{0, 1, 2, 255, 256, 257, 1023, 1024} {
		hold(t, fmt.Sprint(n, " pods"), many(n), api.OK)
	}
	for _, n := range []int{1025, 1026, 2048, 65535} {
		hold(t, fmt.Sprint(n, " pods"), many(n), api.ErrFull)
		hold(t, fmt.Sprint(n, " zero pods"), ckone.State{Pods: make([]ckone.Pod, n)}, api.ErrFull)
		for _, i := range []int{0, 1, n - 1} {
			s := many(n)
			s.Pods[i].Restart = 3
			hold(t, fmt.Sprint(n, " pods, and a Restart"), s, api.ErrFull)
		}
	}
	for _, n := range []int{65536, 65537, 65536 + 1024, 1 << 17} {
		if e := many(n).Check(); e != api.ErrFull {
			t.Errorf("Check of %d pods answers %v", n, e)
		}
		if b, e := ckone.Encode(many(n)); b != "" || e != api.ErrFull {
			t.Errorf("Encode of %d pods answers %q and %v", n, short(b), e)
		}
	}
	for _, x := range []struct {
		at   int
		want api.Errno
		do   func(p *ckone.Pod)
	}{
		{1023, api.ErrName, func(p *ckone.Pod) { p.Name = "" }},
		{1023, api.ErrForm, func(p *ckone.Pod) { p.File = "f01022" }},
		{1023, api.ErrRange, func(p *ckone.Pod) { p.Restart = 255 }},
		{512, api.ErrForm, func(p *ckone.Pod) { p.Image = "" }},
		{512, api.ErrForm, func(p *ckone.Pod) { p.File = "f00510" }},
	} {
		s := many(1024)
		x.do(&s.Pods[x.at])
		hold(t, fmt.Sprintf("%v at pod %d of 1024", x.want, x.at), s, x.want)
	}
}

// one is a state of one pod.
func one(p ckone.Pod) ckone.State { return ckone.State{Seq: 1, Pods: []ckone.Pod{p}} }

// P17.1: how long a File, a Name and an Image may be.
func TestLengths(t *testing.T) {
	label := strings.Repeat("a", 63)
	for n := range 300 {
		of := func(may bool, e api.Errno) api.Errno {
			if may {
				return api.OK
			}
			return e
		}
		s := strings.Repeat("a", n)
		hold(t, fmt.Sprintf("a File of %d bytes", n), one(ckone.Pod{File: s, Name: "n", Image: "i"}), of(1 <= n && n <= 64, api.ErrName))
		hold(t, fmt.Sprintf("a label of %d bytes", n), one(ckone.Pod{File: "f", Name: s, Image: "i"}), of(1 <= n && n <= 63, api.ErrName))
		hold(t, fmt.Sprintf("an Image of %d bytes", n), one(ckone.Pod{File: "f", Name: "n", Image: s}), of(1 <= n && n <= 255, api.ErrForm))
		name := strings.Repeat(label+".", 5)[:n]
		hold(t, fmt.Sprintf("a Name of %d bytes", n), one(ckone.Pod{File: "f", Name: name, Image: "i"}), of(1 <= n && n <= 253 && n%64 != 0, api.ErrName))
	}
	longest := ckone.Pod{File: strings.Repeat("f", 64), Name: strings.Repeat(label+".", 4)[:253], Image: strings.Repeat("i", 255), Restart: 2}
	s := ckone.State{Seq: 1 << 31}
	for i := range 1024 {
		p := longest
		p.File = p.File[:60] + fmt.Sprintf("%04d", i)
		s.Pods = append(s.Pods, p)
	}
	hold(t, "all texts at their longest", s, api.OK)
	// Texts above what has bytes are wrong as all others are.
	for _, n := range []int{4096, 4097, 65535, 65536, 1 << 20} {
		s := strings.Repeat("a", n)
		for want, p := range map[string]ckone.Pod{"name": {File: s, Name: "n", Image: "i"}, "form": {File: "f", Name: "n", Image: s}} {
			if e := one(p).Check(); e.Word() != want {
				t.Errorf("a text of %d bytes: Check answers %v, not %s", n, e, want)
			}
			if b, e := ckone.Encode(one(p)); b != "" || e.Word() != want {
				t.Errorf("a text of %d bytes: Encode answers %q, %v", n, short(b), e)
			}
		}
	}
}

// P17.1: each Restart.
func TestRestarts(t *testing.T) {
	for i := range 256 {
		want := api.OK
		if i > 2 {
			want = api.ErrRange
		}
		hold(t, fmt.Sprint("the Restart ", i), one(ckone.Pod{File: "f", Name: "n", Image: "i", Restart: uint8(i)}), want)
	}
}

// P17.1: Files rise byte by byte: each two names, of which one is ahead of the other.
func TestFilesRise(t *testing.T) {
	rising := []string{"-", "--", "-.", "-a", ".", "./", "/", "/-", "0", "00", "01", "0a", "0aa", "1", "9", "_", "__", "a", "a-", "a.", "a/", "a0", "a_", "aa", "aaa", "ab", "b", "b-", "z", "zz"}
	for i, x := range rising {
		for k, y := range rising {
			s := ckone.State{Pods: []ckone.Pod{{File: x, Name: "n", Image: "i"}, {File: y, Name: "n", Image: "i"}}}
			want := api.OK
			if i >= k {
				want = api.ErrForm
			}
			hold(t, fmt.Sprintf("%q ahead of %q", x, y), s, want)
		}
	}
	long := strings.Repeat("a", 63)
	for _, x := range []struct {
		files string
		want  api.Errno
	}{
		{long + " " + long + "a", api.OK}, {long + "a " + long, api.ErrForm}, {long + "a " + long + "b", api.OK},
		{long + "b " + long + "a", api.ErrForm}, {long + "a " + long + "a", api.ErrForm}, {long + "a b", api.OK},
		{"a b a", api.ErrForm}, {"a c b", api.ErrForm}, {"b a c", api.ErrForm}, {"a b b", api.ErrForm}, {"a a b", api.ErrForm}, {"a b c", api.OK}, {"b c d a", api.ErrForm},
	} {
		var s ckone.State
		for _, f := range strings.Fields(x.files) {
			s.Pods = append(s.Pods, ckone.Pod{File: f, Name: "n", Image: "i"})
		}
		hold(t, x.files, s, x.want)
	}
}
