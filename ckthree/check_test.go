package ckthree_test

import (
	"fmt"
	"math"
	"strings"
	"testing"

	"bosun/api"
	"bosun/ckthree"
	"bosun/spec"
)

// spoil is a way to spoil a state, and the error that comes of it.
type spoil struct {
	what string
	want api.Errno
	do   func(s *ckthree.State)
}

// podSpoils spoil the pod of a number, in the order of the section 'Errors', and then of layer 14's, but for what is wrong
// with its containers. Of two of them, and of those of containers, the later one is to be done first: then both are done.
func podSpoils(i int) []spoil {
	file := func(what string, want api.Errno, do func(file string) string) spoil {
		return spoil{fmt.Sprintf("a File, %s, of pod %d", what, i), want, func(s *ckthree.State) { s.Pods[i].File = do(plain().Pods[i].File) }}
	}
	in := func(what string, want api.Errno, do func(p *spec.Pod)) spoil {
		return spoil{fmt.Sprintf("%s of pod %d", what, i), want, func(s *ckthree.State) { do(&s.Pods[i].Pod) }}
	}
	l := []spoil{
		file("no name", api.ErrName, func(file string) string { return file + "A" }),
		file("no name and below all", api.ErrName, func(file string) string { return "!" + file }),
		file("empty", api.ErrName, func(string) string { return "" }),
		file("too long", api.ErrName, func(file string) string { return file + strings.Repeat("z", 64) }),
	}
	if i > 0 {
		ahead := plain().Pods[i-1].File
		l = append(l,
			file("as the one ahead", api.ErrForm, func(string) string { return ahead }),
			file("below that ahead", api.ErrForm, func(string) string { return "-" + ahead }))
	}
	return append(l,
		in("the Name", api.ErrName, func(p *spec.Pod) { p.Name = "-" }),
		in("the empty Name", api.ErrName, func(p *spec.Pod) { p.Name = "" }),
		in("the Namespace", api.ErrName, func(p *spec.Pod) { p.Namespace = "a.b" }),
		in("the empty Namespace", api.ErrName, func(p *spec.Pod) { p.Namespace = "" }),
		in("the Restart", api.ErrRange, func(p *spec.Pod) { p.Restart = 3 }),
		in("the Restart, below all,", api.ErrRange, func(p *spec.Pod) { p.Restart = -1 }),
		in("the Grace, none,", api.ErrRange, func(p *spec.Pod) { p.Grace = 0 }),
		in("the great Grace", api.ErrRange, func(p *spec.Pod) { p.Grace = 3601 }),
		in("the containers, none,", api.ErrNone, func(p *spec.Pod) { p.Containers = nil }),
		in("the containers, too many,", api.ErrFull, func(p *spec.Pod) { fill(&p.Containers, 17, numbered) }))
}

// containerSpoils spoil a container of a pod, likewise; those of items the last item, which is put there if there is none.
func containerSpoils(i, k int) []spoil {
	in := func(what string, want api.Errno, do func(c *spec.Container)) spoil {
		return spoil{fmt.Sprintf("%s of container %d of pod %d", what, k, i), want, func(s *ckthree.State) { do(&s.Pods[i].Pod.Containers[k]) }}
	}
	l := []spoil{
		in("the Name", api.ErrName, func(c *spec.Container) { c.Name = "a.b" }),
		in("the empty Name", api.ErrName, func(c *spec.Container) { c.Name = "" }),
	}
	for other := range k {
		name := plain().Pods[i].Pod.Containers[other].Name
		l = append(l, in(fmt.Sprint("the Name of container ", other, " as that"), api.ErrTwice, func(c *spec.Container) { c.Name = name }))
	}
	two := func(c *spec.Container) *spec.Container {
		fill(&c.Command, 2, command)
		fill(&c.Ports, 2, port)
		fill(&c.Env, 2, env)
		return c
	}
	long := strings.Repeat("x", 4097)
	return append(l,
		in("the Image", api.ErrForm, func(c *spec.Container) { c.Image = "Nginx" }),
		in("the empty Image", api.ErrForm, func(c *spec.Container) { c.Image = "" }),
		in("the Command, too many,", api.ErrFull, func(c *spec.Container) { fill(&c.Command, 17, command) }),
		in("the Ports, too many,", api.ErrFull, func(c *spec.Container) { fill(&c.Ports, 17, port) }),
		in("the Env, too many,", api.ErrFull, func(c *spec.Container) { fill(&c.Env, 17, env) }),
		in("the Cpu, none,", api.ErrRange, func(c *spec.Container) { c.Cpu = 0 }),
		in("the great Cpu", api.ErrRange, func(c *spec.Container) { c.Cpu = 64001 }),
		in("the Memory, none,", api.ErrRange, func(c *spec.Container) { c.Memory = 0 }),
		in("the great Memory", api.ErrRange, func(c *spec.Container) { c.Memory = 1<<20 + 1 }),
		in("a Command's text, no UTF-8,", api.ErrText, func(c *spec.Container) { two(c).Command[1] = "\xff" + c.Command[1] }),
		in("a Command's text, long,", api.ErrLong, func(c *spec.Container) { two(c).Command[1] += long }),
		in("a Number, none,", api.ErrRange, func(c *spec.Container) { two(c).Ports[1].Number = 0 }),
		in("a great Number", api.ErrRange, func(c *spec.Container) { two(c).Ports[1].Number = 65536 }),
		in("a Proto", api.ErrRange, func(c *spec.Container) { two(c).Ports[1].Proto = 2 }),
		in("Ports alike", api.ErrTwice, func(c *spec.Container) { two(c).Ports[0] = c.Ports[1] }),
		in("a variable's Name", api.ErrName, func(c *spec.Container) { two(c).Env[1].Name = "1" }),
		in("a variable's empty Name", api.ErrName, func(c *spec.Container) { two(c).Env[1].Name = "" }),
		in("variables of one Name", api.ErrTwice, func(c *spec.Container) { two(c).Env[0].Name = c.Env[1].Name }),
		in("a Value, no UTF-8,", api.ErrText, func(c *spec.Container) { two(c).Env[1].Value = "\xff" + c.Env[1].Value }),
		in("a Value, long,", api.ErrLong, func(c *spec.Container) { two(c).Env[1].Value += long }))
}

// allSpoils are those of a pod, and of all its containers.
func allSpoils(i int) []spoil {
	l := podSpoils(i)
	for k := range plain().Pods[i].Pod.Containers {
		l = append(l, containerSpoils(i, k)...)
	}
	return l
}

// P19.1: a state that may be, and each error alone, at each pod, and at each container of it.
func TestErrorsAlone(t *testing.T) {
	hold(t, "a state", plain(), api.OK)
	hold(t, "a zero pod", ckthree.State{Pods: make([]ckthree.Pod, 1)}, api.ErrName)
	hold(t, "a zero pod with a File", one(ckthree.Pod{File: "f"}), api.ErrName)
	seen := map[api.Errno]int{}
	for i := range plain().Pods {
		for _, x := range allSpoils(i) {
			s := plain()
			x.do(&s)
			hold(t, x.what, s, x.want)
			seen[x.want]++
		}
		s := plain()
		s.Pods[i].Pod.Containers = make([]spec.Container, 1)
		hold(t, "a zero container", s, api.ErrName)
		s = plain()
		s.Pods[i].Pod = spec.Pod{}
		hold(t, "a zero pod with its File", s, api.ErrName)
	}
	if len(seen) != 8 {
		t.Errorf("the errors are %v", seen)
	}
}

// P19.1: of each two errors of one pod, or of its containers, the one that is named first is told.
func TestErrorsTogether(t *testing.T) {
	for i := range plain().Pods {
		l := allSpoils(i)
		for j, x := range l {
			for _, later := range l[j+1:] {
				s := plain()
				later.do(&s)
				x.do(&s)
				hold(t, x.what+", and "+later.what, s, x.want)
			}
		}
	}
}

// P19.1: each error of a pod is told ahead of each one of a later pod.
func TestErrorsOfPods(t *testing.T) {
	for i := range plain().Pods {
		for k := i + 1; k < len(plain().Pods); k++ {
			for _, x := range allSpoils(i) {
				for _, later := range allSpoils(k) {
					s := plain()
					later.do(&s)
					x.do(&s)
					hold(t, x.what+", and "+later.what, s, x.want)
				}
			}
		}
	}
}

// P19.1: how many pods there may be; that there are too many is told ahead of all.
func TestCountOfPods(t *testing.T) {
	for _, n := range []int{0, 1, 2, 255, 256, 257, 1023, 1024} {
		hold(t, fmt.Sprint(n, " pods"), many(n), api.OK)
	}
	for _, n := range []int{1025, 1026, 2048, 65535, 65536, 65537, 65536 + 1024, 1 << 17} {
		hold(t, fmt.Sprint(n, " pods"), many(n), api.ErrFull)
		hold(t, fmt.Sprint(n, " zero pods"), ckthree.State{Pods: make([]ckthree.Pod, n)}, api.ErrFull)
	}
	for _, i := range []int{0, 1, 1023} {
		for _, x := range []struct {
			want api.Errno
			do   func(p *ckthree.Pod)
		}{
			{api.ErrName, func(p *ckthree.Pod) { p.File = "" }},
			{api.ErrName, func(p *ckthree.Pod) { p.Pod.Name = "" }},
			{api.ErrRange, func(p *ckthree.Pod) { p.Pod.Restart = 255 }},
			{api.ErrNone, func(p *ckthree.Pod) { p.Pod.Containers = nil }},
			{api.ErrFull, func(p *ckthree.Pod) { fill(&p.Pod.Containers, 17, numbered) }},
			{api.ErrForm, func(p *ckthree.Pod) { p.Pod.Containers[0].Image = "" }},
			{api.ErrText, func(p *ckthree.Pod) { p.Pod.Containers[0].Command = []string{"\xff"} }},
			{api.ErrTwice, func(p *ckthree.Pod) { p.Pod.Containers[0].Ports = []spec.Port{{Number: 1}, {Number: 1}} }},
		} {
			s, over := many(1024), many(1025)
			x.do(&s.Pods[i])
			x.do(&over.Pods[i])
			hold(t, fmt.Sprintf("%v at pod %d of 1024", x.want, i), s, x.want)
			hold(t, fmt.Sprintf("%v at pod %d of 1025", x.want, i), over, api.ErrFull)
		}
	}
	s := many(1024)
	s.Pods[1023].File = s.Pods[1022].File
	hold(t, "the last two Files of 1024 alike", s, api.ErrForm)
}

// P19.1: Files, of each byte, and of each length.
func TestFiles(t *testing.T) {
	for i := range 256 {
		c := string([]byte{byte(i)})
		want := api.ErrName
		if strings.Contains("abcdefghijklmnopqrstuvwxyz0123456789._-/", c) {
			want = api.OK
		}
		for _, f := range []string{c, "a" + c, c + "a", "a" + c + "a"} {
			hold(t, "a File", one(podOf(f)), want)
		}
	}
	for n := range 200 {
		want := api.ErrName
		if 1 <= n && n <= 64 {
			want = api.OK
		}
		hold(t, fmt.Sprintf("a File of %d bytes", n), one(podOf(strings.Repeat("f", n))), want)
	}
	for _, n := range []int{4096, 4097, 65535, 65536, 1 << 20} {
		hold(t, fmt.Sprintf("a File of %d bytes", n), one(podOf(strings.Repeat("f", n))), api.ErrName)
	}
}

// P19.1: Files rise byte by byte: each two names, of which one is ahead of the other.
func TestFilesRise(t *testing.T) {
	rising := []string{"-", "--", "-.", "-a", ".", "./", "/", "/-", "0", "00", "01", "0a", "0aa", "1", "9", "_", "__", "a", "a-", "a.", "a/", "a0", "a_", "aa", "aaa", "ab", "b", "b-", "z", "zz"}
	for i, x := range rising {
		for k, y := range rising {
			want := api.OK
			if i >= k {
				want = api.ErrForm
			}
			hold(t, fmt.Sprintf("%q ahead of %q", x, y), ckthree.State{Pods: []ckthree.Pod{podOf(x), podOf(y)}}, want)
		}
	}
	long := strings.Repeat("a", 63)
	for files, want := range map[string]api.Errno{
		long + " " + long + "a": api.OK, long + "a " + long: api.ErrForm, long + "a " + long + "b": api.OK, long + "b " + long + "a": api.ErrForm,
		long + "a " + long + "a": api.ErrForm, long + "a b": api.OK, "a b a": api.ErrForm, "a c b": api.ErrForm, "b a c": api.ErrForm,
		"a b b": api.ErrForm, "a a b": api.ErrForm, "a b c": api.OK, "b c d a": api.ErrForm, "a b A": api.ErrName, "b a A": api.ErrForm, "A b a": api.ErrName,
	} {
		var s ckthree.State
		for _, f := range strings.Fields(files) {
			s.Pods = append(s.Pods, podOf(f))
		}
		hold(t, files, s, want)
	}
}

// numbers holds that a number may be from least to most; with what, it is put into a state.
func numbers(t *testing.T, what string, least, most int64, put func(s *ckthree.State, n int64)) {
	t.Helper()
	for _, n := range []int64{math.MinInt64, -1 << 32, -1, 0, 1, 2, most / 2, most - 1, most, most + 1, 255, 256, 257, 65535, 65536, 65537, 1<<32 - 1, 1 << 32, 1<<32 + 1, 1<<32 + most, math.MaxInt64} {
		want := api.ErrRange
		if least <= n && n <= most {
			want = api.OK
		}
		s := plain()
		put(&s, n)
		hold(t, fmt.Sprint(what, " ", n), s, want)
	}
}

// P19.1: each number at its limits and beyond.
func TestNumbers(t *testing.T) {
	for i, p := range plain().Pods {
		numbers(t, "the Restart", 0, 2, func(s *ckthree.State, n int64) { s.Pods[i].Pod.Restart = spec.Restart(n) })
		numbers(t, "the Grace", 1, 3600, func(s *ckthree.State, n int64) { s.Pods[i].Pod.Grace = n })
		for k, c := range p.Pod.Containers {
			at := func(s *ckthree.State) *spec.Container { return &s.Pods[i].Pod.Containers[k] }
			numbers(t, "the Cpu", 1, 64000, func(s *ckthree.State, n int64) { at(s).Cpu = n })
			numbers(t, "the Memory", 1, 1<<20, func(s *ckthree.State, n int64) { at(s).Memory = n })
			for j := range c.Ports {
				numbers(t, "the Number", 1, 65535, func(s *ckthree.State, n int64) { at(s).Ports[j].Number = n })
				numbers(t, "the Proto", 0, 1, func(s *ckthree.State, n int64) { at(s).Ports[j].Proto = spec.Proto(n) })
			}
		}
	}
	for n := range 65536 {
		hold(t, "a Number", of(func(p *spec.Pod) { p.Containers[0].Ports = []spec.Port{{Number: int64(n), Proto: spec.Proto(n % 2)}} }), orRange(n >= 1))
		hold(t, "a Grace", of(func(p *spec.Pod) { p.Grace = int64(n) }), orRange(n >= 1 && n <= 3600))
	}
	for n := range 256 {
		hold(t, "a Restart", of(func(p *spec.Pod) { p.Restart = spec.Restart(n) }), orRange(n <= 2))
		hold(t, "a Proto", of(func(p *spec.Pod) { p.Containers[0].Ports = []spec.Port{{Number: 1, Proto: spec.Proto(n)}} }), orRange(n <= 1))
	}
	for n := 1; n <= 64000; n += 251 {
		hold(t, "a Cpu", of(func(p *spec.Pod) { p.Containers[0].Cpu = int64(n) }), api.OK)
		hold(t, "a Memory", of(func(p *spec.Pod) { p.Containers[0].Memory = int64(n) * 16 }), api.OK)
	}
}

// orRange is OK of what may be, else ErrRange.
func orRange(may bool) api.Errno {
	if may {
		return api.OK
	}
	return api.ErrRange
}

// P19.1: each list with as many items as may be, and with more.
func TestCounts(t *testing.T) {
	for n := range 300 {
		want := api.OK
		if n > 16 {
			want = api.ErrFull
		}
		for what, do := range map[string]func(c *spec.Container){
			"texts":     func(c *spec.Container) { fill(&c.Command, n, command) },
			"ports":     func(c *spec.Container) { fill(&c.Ports, n, port) },
			"variables": func(c *spec.Container) { fill(&c.Env, n, env) },
		} {
			hold(t, fmt.Sprint(n, " ", what), of(func(p *spec.Pod) { do(&p.Containers[0]) }), want)
		}
		if n == 0 {
			want = api.ErrNone
		}
		hold(t, fmt.Sprint(n, " containers"), of(func(p *spec.Pod) { p.Containers = nil; fill(&p.Containers, n, numbered) }), want)
	}
}

// P19.1: texts of no bytes and of the most that may be, and one more.
func TestTexts(t *testing.T) {
	label := strings.Repeat("a", 63)
	for _, x := range []struct {
		what        string
		least, most int
		want        api.Errno
		of          string
		do          func(p *spec.Pod, s string)
	}{
		{"a Name", 1, 253, api.ErrName, strings.Repeat("a.", 200), func(p *spec.Pod, s string) { p.Name = s }},
		{"a Namespace", 1, 63, api.ErrName, label + label, func(p *spec.Pod, s string) { p.Namespace = s }},
		{"a container's Name", 1, 63, api.ErrName, label + label, func(p *spec.Pod, s string) { p.Containers[0].Name = s }},
		{"an Image", 1, 255, api.ErrForm, strings.Repeat("i:", 200), func(p *spec.Pod, s string) { p.Containers[0].Image = s }},
		{"a Command's text", 0, 4096, api.ErrLong, strings.Repeat("x", 4099), func(p *spec.Pod, s string) { p.Containers[0].Command = []string{"", s, ""} }},
		{"a variable's Name", 1, 63, api.ErrName, strings.Repeat("V", 70), func(p *spec.Pod, s string) { p.Containers[0].Env = []spec.Env{{Name: s}} }},
		{"a Value", 0, 4096, api.ErrLong, strings.Repeat("\x00", 4099), func(p *spec.Pod, s string) { p.Containers[0].Env = []spec.Env{{Name: "N", Value: s}} }},
	} {
		for n := range len(x.of) + 1 {
			s := x.of[:n]
			want := api.OK
			if n < x.least || n > x.most || x.most == 253 && n%2 == 0 {
				want = x.want // a Name that ends with a point is none
			}
			hold(t, fmt.Sprintf("%s of %d bytes", x.what, n), of(func(p *spec.Pod) { x.do(p, s) }), want)
		}
		for _, n := range []int{65535, 65536, 65537, 1 << 20} {
			hold(t, fmt.Sprintf("%s of %d bytes", x.what, n), of(func(p *spec.Pod) { x.do(p, strings.Repeat("x", n)) }), x.want)
		}
	}
	wide := strings.Repeat("é", 2048)
	hold(t, "texts of 4096 bytes that are 2048 letters", of(func(p *spec.Pod) {
		p.Containers[0].Command, p.Containers[0].Env = []string{wide}, []spec.Env{{Name: "N", Value: wide}}
	}), api.OK)
}

// greatest is a pod as great as it may be.
func greatest(file string) ckthree.Pod {
	label, text := strings.Repeat("a", 60), strings.Repeat("\U0001f600", 1024)
	p := spec.Pod{Name: strings.Repeat(label+"bcd.", 4)[:253], Namespace: label + "bcd", Restart: 2, Grace: 3600, Host: true}
	for i := range 16 {
		c := spec.Container{Name: label + "-" + numbered(i).Name[1:], Image: strings.Repeat("i", 255), Cpu: 64000, Memory: 1 << 20}
		fill(&c.Command, 16, func(int) string { return text })
		fill(&c.Ports, 16, func(i int) spec.Port { return spec.Port{Number: int64(65535 - i/2), Proto: spec.Proto(i % 2)} })
		fill(&c.Env, 16, func(i int) spec.Env { return spec.Env{Name: strings.Repeat("V", 62) + letter(i), Value: text} })
		p.Containers = append(p.Containers, c)
	}
	return ckthree.Pod{File: file + strings.Repeat("f", 64-len(file)), Pod: p}
}

// P19.1: states as great as may be, in each pod or in how many there are.
func TestGreatest(t *testing.T) {
	s := ckthree.State{Seq: math.MaxUint64, Pods: []ckthree.Pod{greatest("a"), greatest("b"), greatest("c")}}
	hold(t, "pods as great as they may be", s, api.OK)
	s.Pods[2].Pod.Containers[15].Env[15].Value += "x"
	hold(t, "pods as great as they may be, and a byte more", s, api.ErrLong)
	s = many(1024)
	for i := range s.Pods {
		p := &s.Pods[i].Pod
		p.Containers = nil
		fill(&p.Containers, 16, func(k int) spec.Container { return full(numbered(k).Name) })
	}
	hold(t, "1024 pods of 16 containers each", s, api.OK)
}
