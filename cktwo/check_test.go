package cktwo_test

import (
	"fmt"
	"strings"
	"testing"

	"bosun/api"
	"bosun/cktwo"
)

// spoil is a way to spoil a state, and the error that comes of it.
type spoil struct {
	what string
	want api.Errno
	do   func(s *cktwo.State)
}

// spoilsOf spoil the pod of a number, in the order of the section 'Errors', but for what is wrong with its containers.
// Of two of them, and of those of containers, the later one is to be done first: then both are done.
func spoilsOf(i int) []spoil {
	in := func(what string, want api.Errno, do func(p *cktwo.Pod)) spoil {
		return spoil{fmt.Sprintf("%s of pod %d", what, i), want, func(s *cktwo.State) { do(&s.Pods[i]) }}
	}
	l := []spoil{
		in("the File, no name,", api.ErrName, func(p *cktwo.Pod) { p.File += "A" }),
		in("the File, no name and below all,", api.ErrName, func(p *cktwo.Pod) { p.File = "!" + p.File }),
		in("the empty File", api.ErrName, func(p *cktwo.Pod) { p.File = "" }),
		in("the Name", api.ErrName, func(p *cktwo.Pod) { p.Name = "-" }),
		in("the empty Name", api.ErrName, func(p *cktwo.Pod) { p.Name = "" }),
		in("the Namespace", api.ErrName, func(p *cktwo.Pod) { p.Namespace = "a.b" }),
		in("the empty Namespace", api.ErrName, func(p *cktwo.Pod) { p.Namespace = "" }),
	}
	if i > 0 {
		to := func(what string, other func(ahead string) string) spoil {
			return spoil{fmt.Sprintf("a File %s of pod %d", what, i), api.ErrForm, func(s *cktwo.State) { s.Pods[i].File = other(plain().Pods[i-1].File) }}
		}
		l = append(l,
			to("as the one ahead", func(ahead string) string { return ahead }),
			to("below that ahead", func(ahead string) string { return "-" + ahead }))
	}
	return append(l,
		in("the Restart", api.ErrRange, func(p *cktwo.Pod) { p.Restart = 3 }),
		in("the Grace, none,", api.ErrRange, func(p *cktwo.Pod) { p.Grace = 0 }),
		in("the great Grace", api.ErrRange, func(p *cktwo.Pod) { p.Grace = 3601 }),
		in("the containers, none,", api.ErrNone, func(p *cktwo.Pod) { p.Containers = nil }),
		in("the containers, too many,", api.ErrFull, func(p *cktwo.Pod) { p.Containers = fill(p.Containers, 17) }))
}

// fill is a list with containers behind it, till there are so many.
func fill(l []cktwo.Container, n int) []cktwo.Container {
	for len(l) < n {
		l = append(l, cktwo.Container{Name: fmt.Sprint("n", len(l)), Image: "i"})
	}
	return l
}

// containerSpoils spoil a container of a pod, likewise.
func containerSpoils(i, k int) []spoil {
	in := func(what string, want api.Errno, do func(l []cktwo.Container, c *cktwo.Container)) spoil {
		return spoil{fmt.Sprintf("%s of container %d of pod %d", what, k, i), want, func(s *cktwo.State) { do(s.Pods[i].Containers, &s.Pods[i].Containers[k]) }}
	}
	l := []spoil{
		in("the Name", api.ErrName, func(_ []cktwo.Container, c *cktwo.Container) { c.Name = "a.b" }),
		in("the empty Name", api.ErrName, func(_ []cktwo.Container, c *cktwo.Container) { c.Name = "" }),
	}
	for other := range k {
		name := plain().Pods[i].Containers[other].Name
		l = append(l, in(fmt.Sprint("the Name of container ", other, " as that"), api.ErrTwice, func(_ []cktwo.Container, c *cktwo.Container) { c.Name = name }))
	}
	return append(l,
		in("the Image", api.ErrForm, func(_ []cktwo.Container, c *cktwo.Container) { c.Image = "Nginx" }),
		in("the empty Image", api.ErrForm, func(_ []cktwo.Container, c *cktwo.Container) { c.Image = "" }))
}

// allSpoils are those of a pod, and of all its containers.
func allSpoils(i int) []spoil {
	l := spoilsOf(i)
	for k := range plain().Pods[i].Containers {
		l = append(l, containerSpoils(i, k)...)
	}
	return l
}

// P18.1: a state that may be, and each error alone, at each pod, and at each container of it.
func TestErrorsAlone(t *testing.T) {
	hold(t, "a state", plain(), api.OK)
	hold(t, "a zero pod", cktwo.State{Pods: make([]cktwo.Pod, 1)}, api.ErrName)
	for i := range plain().Pods {
		for _, x := range allSpoils(i) {
			s := plain()
			x.do(&s)
			hold(t, x.what, s, x.want)
		}
		s := plain()
		s.Pods[i].Containers = make([]cktwo.Container, 1)
		hold(t, "a zero container", s, api.ErrName)
	}
}

// P18.1: of each two errors of one pod, or of its containers, the one that the section names first is told.
func TestErrorsTogether(t *testing.T) {
	for i := range plain().Pods {
		l := allSpoils(i)
		for j, x := range l {
			for _, later := range l[j+1:] {
				s := plain()
				later.do(&s)
				x.do(&s)
				hold(t, x.what+", and "+later.what, s, x.want)
			}
		}
	}
}

// P18.1: each error of a pod is told ahead of each one of a later pod.
func TestErrorsOfPods(t *testing.T) {
	for i := range plain().Pods {
		for k := i + 1; k < len(plain().Pods); k++ {
			for _, x := range allSpoils(i) {
				for _, later := range allSpoils(k) {
					s := plain()
					later.do(&s)
					x.do(&s)
					hold(t, x.what+", and "+later.what, s, x.want)
				}
			}
		}
	}
}

// podOf is the pod of a File, with no more than it needs.
func podOf(file string) cktwo.Pod {
	return cktwo.Pod{File: file, Name: "n", Namespace: "s", Grace: 1, Containers: []cktwo.Container{{Name: "c", Image: "i"}}}
}

// many is a state of so many pods.
func many(n int) cktwo.State {
	s := cktwo.State{Seq: 9, Pods: make([]cktwo.Pod, n)}
	for i := range s.Pods {
		s.Pods[i] = podOf(fmt.Sprintf("f%05d", i))
	}
	return s
}

// P18.1: how many pods there may be; that there are too many is told ahead of all.
func TestCountOfPods(t *testing.T) {
	for _, n := range []int{0, 1, 2, 255, 256, 257, 1023, 1024} {
		hold(t, fmt.Sprint(n, " pods"), many(n), api.OK)
	}
	for _, n := range []int{1025, 1026, 2048, 65535} {
		hold(t, fmt.Sprint(n, " pods"), many(n), api.ErrFull)
		hold(t, fmt.Sprint(n, " zero pods"), cktwo.State{Pods: make([]cktwo.Pod, n)}, api.ErrFull)
		for _, i := range []int{0, 1, n - 1} {
			s := many(n)
			s.Pods[i].Restart = 3
			hold(t, fmt.Sprint(n, " pods, and a Restart"), s, api.ErrFull)
		}
	}
	for _, n := range []int{65536, 65537, 65536 + 1024, 1 << 17} {
		if e := many(n).Check(); e != api.ErrFull {
			t.Errorf("Check of %d pods answers %v", n, e)
		}
		if b, e := cktwo.Encode(many(n)); b != "" || e != api.ErrFull {
			t.Errorf("Encode of %d pods answers %q and %v", n, short(b), e)
		}
	}
	for _, x := range []struct {
		at   int
		want api.Errno
		do   func(p *cktwo.Pod)
	}{
		{1023, api.ErrName, func(p *cktwo.Pod) { p.Name = "" }},
		{1023, api.ErrForm, func(p *cktwo.Pod) { p.File = "f01022" }},
		{1023, api.ErrRange, func(p *cktwo.Pod) { p.Restart = 255 }},
		{1023, api.ErrNone, func(p *cktwo.Pod) { p.Containers = nil }},
		{1023, api.ErrFull, func(p *cktwo.Pod) { p.Containers = fill(nil, 17) }},
		{512, api.ErrForm, func(p *cktwo.Pod) { p.Containers[0].Image = "" }},
		{512, api.ErrForm, func(p *cktwo.Pod) { p.File = "f00510" }},
	} {
		s := many(1024)
		x.do(&s.Pods[x.at])
		hold(t, fmt.Sprintf("%v at pod %d of 1024", x.want, x.at), s, x.want)
	}
}

// one is a state of one pod.
func one(p cktwo.Pod) cktwo.State { return cktwo.State{Seq: 1, Pods: []cktwo.Pod{p}} }

// of is a state of one pod, that is changed.
func of(do func(p *cktwo.Pod)) cktwo.State {
	p := podOf("f")
	do(&p)
	return one(p)
}

// P18.1: how many containers a pod may have.
func TestCountOfContainers(t *testing.T) {
	for n := 1; n < 300; n++ {
		want := api.OK
		if n > 16 {
			want = api.ErrFull
		}
		hold(t, fmt.Sprint(n, " containers"), of(func(p *cktwo.Pod) { p.Containers = fill(nil, n) }), want)
		zeros := want
		if n <= 16 {
			zeros = api.ErrName
		}
		hold(t, fmt.Sprint(n, " zero containers"), of(func(p *cktwo.Pod) { p.Containers = make([]cktwo.Container, n) }), zeros)
	}
	for _, n := range []int{65536, 65537, 1 << 20} {
		hold(t, fmt.Sprint(n, " containers"), of(func(p *cktwo.Pod) { p.Containers = make([]cktwo.Container, n) }), api.ErrFull)
	}
	hold(t, "no container", of(func(p *cktwo.Pod) { p.Containers = nil }), api.ErrNone)
}

// P18.1: names of containers that are alike, wherever they stand; in two pods they may be.
func TestContainersTwice(t *testing.T) {
	for n := 2; n <= 16; n++ {
		for i := range n {
			for k := i + 1; k < n; k++ {
				hold(t, fmt.Sprintf("the containers %d and %d of %d", i, k, n), of(func(p *cktwo.Pod) {
					p.Containers = fill(nil, n)
					p.Containers[k].Name = p.Containers[i].Name
				}), api.ErrTwice)
			}
		}
	}
	hold(t, "names that begin alike", of(func(p *cktwo.Pod) {
		p.Containers = []cktwo.Container{{Name: "a", Image: "i"}, {Name: "aa", Image: "i"}, {Name: "aaa", Image: "i"}, {Name: "b", Image: "i"}, {Name: "a-a", Image: "i"}}
	}), api.OK)
	hold(t, "a name as an image is", of(func(p *cktwo.Pod) {
		p.Containers = []cktwo.Container{{Name: "a", Image: "b"}, {Name: "b", Image: "a"}}
	}), api.OK)
	s := cktwo.State{Pods: []cktwo.Pod{podOf("a"), podOf("b"), podOf("c")}}
	hold(t, "pods alike but for their File", s, api.OK)
}

// P18.1: how long each text may be.
func TestLengths(t *testing.T) {
	label := strings.Repeat("a", 63)
	for n := range 300 {
		or := func(may bool, e api.Errno) api.Errno {
			if may {
				return api.OK
			}
			return e
		}
		s := strings.Repeat("a", n)
		name := strings.Repeat(label+".", 5)[:n]
		hold(t, fmt.Sprintf("a File of %d bytes", n), of(func(p *cktwo.Pod) { p.File = s }), or(1 <= n && n <= 64, api.ErrName))
		hold(t, fmt.Sprintf("a Name of %d bytes", n), of(func(p *cktwo.Pod) { p.Name = name }), or(1 <= n && n <= 253 && n%64 != 0, api.ErrName))
		hold(t, fmt.Sprintf("a Namespace of %d bytes", n), of(func(p *cktwo.Pod) { p.Namespace = s }), or(1 <= n && n <= 63, api.ErrName))
		hold(t, fmt.Sprintf("a container's Name of %d bytes", n), of(func(p *cktwo.Pod) { p.Containers[0].Name = s }), or(1 <= n && n <= 63, api.ErrName))
		hold(t, fmt.Sprintf("an Image of %d bytes", n), of(func(p *cktwo.Pod) { p.Containers[0].Image = s }), or(1 <= n && n <= 255, api.ErrForm))
	}
	s := cktwo.State{Seq: 1 << 63}
	for i := range 1024 {
		p := cktwo.Pod{File: fmt.Sprintf("%s%04d", strings.Repeat("f", 60), i), Name: strings.Repeat(label+".", 4)[:253], Namespace: label, Restart: 2, Grace: 3600}
		for k := range 16 {
			p.Containers = append(p.Containers, cktwo.Container{Name: fmt.Sprintf("%s%02d", label[:61], k), Image: strings.Repeat("i", 255)})
		}
		s.Pods = append(s.Pods, p)
	}
	hold(t, "all at its greatest", s, api.OK)
	// Texts above what has bytes are wrong as all others are.
	for _, n := range []int{4096, 4097, 65535, 65536, 1 << 20} {
		long := strings.Repeat("a", n)
		for _, x := range []struct {
			want api.Errno
			do   func(p *cktwo.Pod)
		}{
			{api.ErrName, func(p *cktwo.Pod) { p.File = long }},
			{api.ErrName, func(p *cktwo.Pod) { p.Name = long }},
			{api.ErrName, func(p *cktwo.Pod) { p.Namespace = long }},
			{api.ErrName, func(p *cktwo.Pod) { p.Containers[0].Name = long }},
			{api.ErrForm, func(p *cktwo.Pod) { p.Containers[0].Image = long }},
		} {
			if e := of(x.do).Check(); e != x.want {
				t.Errorf("a text of %d bytes: Check answers %v, not %v", n, e, x.want)
			}
			if b, e := cktwo.Encode(of(x.do)); b != "" || e != x.want {
				t.Errorf("a text of %d bytes: Encode answers %q, %v", n, short(b), e)
			}
		}
	}
}

// P18.1: names and labels aren't the same: a Name may have points, a Namespace and a container's Name may not.
func TestNames(t *testing.T) {
	for s, label := range map[string]bool{"a.b": false, "a-1.b": false, "a": true, "a-b": true, "0": true} {
		want := api.ErrName
		if label {
			want = api.OK
		}
		hold(t, s, of(func(p *cktwo.Pod) { p.Name = s }), api.OK)
		hold(t, s, of(func(p *cktwo.Pod) { p.Namespace = s }), want)
		hold(t, s, of(func(p *cktwo.Pod) { p.Containers[0].Name = s }), want)
	}
	for _, s := range []string{"-", "a-", "-a", "A", "a_b", "a b", "a.", ".a", "a..b", "é", "\xff", "a\x00"} {
		hold(t, s, of(func(p *cktwo.Pod) { p.Name = s }), api.ErrName)
		hold(t, s, of(func(p *cktwo.Pod) { p.Namespace = s }), api.ErrName)
		hold(t, s, of(func(p *cktwo.Pod) { p.Containers[0].Name = s }), api.ErrName)
	}
	for _, s := range []string{"-", "A", ".", "/a", "a b", "a\x00", "é", "a\xff"} {
		hold(t, s, of(func(p *cktwo.Pod) { p.Containers[0].Image = s }), api.ErrForm)
	}
	for i := range 256 {
		c := string([]byte{byte(i)})
		want := api.ErrName
		if strings.Contains("abcdefghijklmnopqrstuvwxyz0123456789._-/", c) {
			want = api.OK
		}
		for _, s := range []string{c, "a" + c, c + "a", "a" + c + "a"} {
			hold(t, "a File", of(func(p *cktwo.Pod) { p.File = s }), want)
		}
	}
}

// P18.1: each Restart, and each Grace.
func TestNumbers(t *testing.T) {
	for i := range 65536 {
		want := api.OK
		if i < 1 || i > 3600 {
			want = api.ErrRange
		}
		hold(t, fmt.Sprint("the Grace ", i), of(func(p *cktwo.Pod) { p.Grace = uint16(i) }), want)
	}
	for i := range 256 {
		want := api.OK
		if i > 2 {
			want = api.ErrRange
		}
		hold(t, fmt.Sprint("the Restart ", i), of(func(p *cktwo.Pod) { p.Restart = uint8(i) }), want)
	}
}

// P18.1: Files rise byte by byte: each two names, of which one is ahead of the other.
func TestFilesRise(t *testing.T) {
	rising := []string{"-", "--", "-.", "-a", ".", "./", "/", "/-", "0", "00", "01", "0a", "0aa", "1", "9", "_", "__", "a", "a-", "a.", "a/", "a0", "a_", "aa", "aaa", "ab", "b", "b-", "z", "zz"}
	for i, x := range rising {
		for k, y := range rising {
			want := api.OK
			if i >= k {
				want = api.ErrForm
			}
			hold(t, fmt.Sprintf("%q ahead of %q", x, y), cktwo.State{Pods: []cktwo.Pod{podOf(x), podOf(y)}}, want)
		}
	}
	long := strings.Repeat("a", 63)
	for _, x := range []struct {
		files string
		want  api.Errno
	}{
		{long + " " + long + "a", api.OK}, {long + "a " + long, api.ErrForm}, {long + "a " + long + "b", api.OK},
		{long + "b " + long + "a", api.ErrForm}, {long + "a " + long + "a", api.ErrForm}, {long + "a b", api.OK},
		{"a b a", api.ErrForm}, {"a c b", api.ErrForm}, {"b a c", api.ErrForm}, {"a b b", api.ErrForm}, {"a a b", api.ErrForm}, {"a b c", api.OK}, {"b c d a", api.ErrForm},
	} {
		var s cktwo.State
		for _, f := range strings.Fields(x.files) {
			s.Pods = append(s.Pods, podOf(f))
		}
		hold(t, x.files, s, x.want)
	}
}
