package ckpt_test

import (
	"fmt"
	"strings"
	"testing"

	"bosun/api"
	"bosun/ckone"
	"bosun/ckpt"
	"bosun/ckthree"
	"bosun/cktwo"
	"bosun/spec"
)

// mostPayload is how many bytes a frame's payload has at most.
const mostPayload = 1 << 22

// spoil is a way to spoil the pod of a number, and the error that comes of it.
type spoil[S any] struct {
	what string
	want api.Errno
	do   func(s *S, i int)
}

// spoilsOne, spoilsTwo and spoilsThree are such ways, for each error that Encode of the layer may tell of a pod.
func spoilsOne() []spoil[ckone.State] {
	return []spoil[ckone.State]{
		{"the File", api.ErrName, func(s *ckone.State, i int) { s.Pods[i].File += "A" }},
		{"the Name", api.ErrName, func(s *ckone.State, i int) { s.Pods[i].Name = "-" }},
		{"the Image", api.ErrForm, func(s *ckone.State, i int) { s.Pods[i].Image = "" }},
		{"the Files", api.ErrForm, func(s *ckone.State, i int) { s.Pods[(i+1)%len(s.Pods)].File = s.Pods[i].File }},
		{"the Restart", api.ErrRange, func(s *ckone.State, i int) { s.Pods[i].Restart = 3 }},
	}
}

func spoilsTwo() []spoil[cktwo.State] {
	return []spoil[cktwo.State]{
		{"the File", api.ErrName, func(s *cktwo.State, i int) { s.Pods[i].File += "A" }},
		{"the Name", api.ErrName, func(s *cktwo.State, i int) { s.Pods[i].Name = "-" }},
		{"the Namespace", api.ErrName, func(s *cktwo.State, i int) { s.Pods[i].Namespace = "" }},
		{"the Files", api.ErrForm, func(s *cktwo.State, i int) { s.Pods[(i+1)%len(s.Pods)].File = s.Pods[i].File }},
		{"the Restart", api.ErrRange, func(s *cktwo.State, i int) { s.Pods[i].Restart = 3 }},
		{"the Grace", api.ErrRange, func(s *cktwo.State, i int) { s.Pods[i].Grace = 0 }},
		{"no containers", api.ErrNone, func(s *cktwo.State, i int) { s.Pods[i].Containers = nil }},
		{"too many containers", api.ErrFull, func(s *cktwo.State, i int) { s.Pods[i].Containers = make([]cktwo.Container, 17) }},
		{"a container's Name", api.ErrName, func(s *cktwo.State, i int) { s.Pods[i].Containers[1].Name = "a.b" }},
		{"containers of one Name", api.ErrTwice, func(s *cktwo.State, i int) { s.Pods[i].Containers[1].Name = s.Pods[i].Containers[0].Name }},
		{"a container's Image", api.ErrForm, func(s *cktwo.State, i int) { s.Pods[i].Containers[1].Image = "Nginx" }},
	}
}

func spoilsThree() []spoil[ckthree.State] {
	pod := func(what string, want api.Errno, do func(p *spec.Pod)) spoil[ckthree.State] {
		return spoil[ckthree.State]{what, want, func(s *ckthree.State, i int) { do(&s.Pods[i].Pod) }}
	}
	container := func(what string, want api.Errno, do func(c *spec.Container)) spoil[ckthree.State] {
		return pod("a container's "+what, want, func(p *spec.Pod) { do(&p.Containers[1]) })
	}
	return []spoil[ckthree.State]{
		{"the File", api.ErrName, func(s *ckthree.State, i int) { s.Pods[i].File += "A" }},
		{"the Files", api.ErrForm, func(s *ckthree.State, i int) { s.Pods[(i+1)%len(s.Pods)].File = s.Pods[i].File }},
		pod("the Name", api.ErrName, func(p *spec.Pod) { p.Name = "-" }),
		pod("the Namespace", api.ErrName, func(p *spec.Pod) { p.Namespace = "" }),
		pod("the Restart", api.ErrRange, func(p *spec.Pod) { p.Restart = 3 }),
		pod("the Grace", api.ErrRange, func(p *spec.Pod) { p.Grace = 3601 }),
		pod("no containers", api.ErrNone, func(p *spec.Pod) { p.Containers = nil }),
		pod("too many containers", api.ErrFull, func(p *spec.Pod) { p.Containers = make([]spec.Container, 17) }),
		container("Name", api.ErrName, func(c *spec.Container) { c.Name = "a.b" }),
		pod("containers of one Name", api.ErrTwice, func(p *spec.Pod) { p.Containers[1].Name = p.Containers[0].Name }),
		container("Image", api.ErrForm, func(c *spec.Container) { c.Image = "Nginx" }),
		container("Command, too long,", api.ErrFull, func(c *spec.Container) { c.Command = make([]string, 17) }),
		container("Cpu", api.ErrRange, func(c *spec.Container) { c.Cpu = 0 }),
		container("Memory", api.ErrRange, func(c *spec.Container) { c.Memory = 1<<20 + 1 }),
		container("text that is none", api.ErrText, func(c *spec.Container) { c.Command = []string{"\xff"} }),
		container("Port", api.ErrRange, func(c *spec.Container) { c.Ports = []spec.Port{{}} }),
		container("two Ports", api.ErrTwice, func(c *spec.Container) { c.Ports = make([]spec.Port, 2); c.Ports[0].Number = 1; c.Ports[1].Number = 1 }),
		container("variable's Name", api.ErrName, func(c *spec.Container) { c.Env = []spec.Env{{Name: "0"}} }),
		container("two variables", api.ErrTwice, func(c *spec.Container) { c.Env = []spec.Env{{Name: "A"}, {Name: "A"}} }),
		container("Value", api.ErrText, func(c *spec.Container) { c.Env = []spec.Env{{Name: "A", Value: "\xff"}} }),
	}
}

// holdSpoils holds that what was spoilt has no checkpoint, and that its bytes, in a frame, aren't loaded.
func holdSpoils[S any](t *testing.T, v versioned[S], plain func() S, raw func(s S) string, l []spoil[S]) {
	t.Helper()
	for _, x := range l {
		for i := range 3 {
			s := plain()
			x.do(&s, i)
			if _, e := v.encode(s); e != x.want {
				t.Fatalf("%s: Encode answers %v, not %v", x.what, e, x.want)
			}
			unsaved(t, x.what, v, s, x.want)
			refused(t, x.what, frameOf(v.number, raw(s)), x.want)
		}
	}
}

// P21.1: states that may not be have Encode's error, and no bytes; and where their bytes are in a frame, Decode's.
func TestSpoiltStates(t *testing.T) {
	holdSpoils(t, ones(), plainOne, rawOne, spoilsOne())
	holdSpoils(t, twos(), plainTwo, rawTwo, spoilsTwo())
	holdSpoils(t, threes(), plainThree, rawThree, spoilsThree())
	long := plainThree()
	long.Pods[1].Pod.Containers[0].Command = []string{strings.Repeat("x", 4097)}
	unsaved(t, "a long text", threes(), long, api.ErrLong)
	unsaved(t, "a zero pod", ones(), ckone.State{Pods: make([]ckone.Pod, 1)}, api.ErrName)
	unsaved(t, "a zero pod", twos(), cktwo.State{Pods: make([]cktwo.Pod, 1)}, api.ErrName)
	unsaved(t, "a zero pod", threes(), ckthree.State{Pods: make([]ckthree.Pod, 1)}, api.ErrName)
}

// manyOne, manyTwo and manyThree are states of so many pods; up to 1024 of them may be.
func manyOne(n int) ckone.State {
	s := ckone.State{Seq: 9, Pods: make([]ckone.Pod, n)}
	for i := range s.Pods {
		s.Pods[i] = ckone.Pod{File: fmt.Sprintf("f%06d", i), Name: "n", Image: "i", Restart: uint8(i % 3)}
	}
	return s
}

func manyTwo(n, containers int) cktwo.State {
	s := cktwo.State{Seq: 9, Pods: make([]cktwo.Pod, n)}
	for i := range s.Pods {
		s.Pods[i] = cktwo.Pod{File: fmt.Sprintf("f%06d", i), Name: "n", Namespace: "s", Grace: 1}
		for k := range containers {
			s.Pods[i].Containers = append(s.Pods[i].Containers, cktwo.Container{Name: fmt.Sprint("c", k), Image: "i"})
		}
	}
	return s
}

func manyThree(n, containers int) ckthree.State {
	s := ckthree.State{Seq: 9, Pods: make([]ckthree.Pod, n)}
	for i := range s.Pods {
		p := spec.Pod{Name: "n", Namespace: "s", Grace: 1}
		for k := range containers {
			p.Containers = append(p.Containers, spec.Container{Name: fmt.Sprint("c", k), Image: "i", Cpu: 1, Memory: 1})
		}
		s.Pods[i] = ckthree.Pod{File: fmt.Sprintf("f%06d", i), Pod: p}
	}
	return s
}

// P21.1: how many pods there may be.
func TestCountOfPods(t *testing.T) {
	for _, n := range []int{0, 1, 255, 256, 1023, 1024} {
		hold(t, fmt.Sprint(n, " pods"), ones(), manyOne(n))
		hold(t, fmt.Sprint(n, " pods"), twos(), manyTwo(n, 2))
		hold(t, fmt.Sprint(n, " pods"), threes(), manyThree(n, 2))
	}
	for _, n := range []int{1025, 2048, 65535, 65536, 65537} {
		one, two, three := manyOne(n), manyTwo(n, 1), manyThree(n, 1)
		unsaved(t, fmt.Sprint(n, " pods"), ones(), one, api.ErrFull)
		unsaved(t, fmt.Sprint(n, " pods"), twos(), two, api.ErrFull)
		unsaved(t, fmt.Sprint(n, " pods"), threes(), three, api.ErrFull)
		if n < 1<<16 {
			refused(t, fmt.Sprint(n, " pods"), frameOf(1, rawOne(one)), api.ErrFull)
			refused(t, fmt.Sprint(n, " pods"), frameOf(2, rawTwo(two)), api.ErrFull)
			refused(t, fmt.Sprint(n, " pods"), frameOf(3, rawThree(three)), api.ErrFull)
		}
	}
}

// bigOne is the state of version 1 that has the most bytes.
func bigOne() ckone.State {
	s, label := manyOne(1024), strings.Repeat("n", 63)
	for i := range s.Pods {
		p := &s.Pods[i]
		p.File += strings.Repeat("f", 64-len(p.File))
		p.Name = strings.Join([]string{label, label, label, label[:61]}, ".")
		p.Image = strings.Repeat("i", 255)
	}
	return s
}

// bigTwo and bigThree are states whose bytes are so many, or, of a length that is too long, as many as fit well.
func bigTwo(n int) cktwo.State {
	s := manyTwo(1024, 16)
	spare := n - len(rawTwo(s))
	for i := range s.Pods {
		for k := range s.Pods[i].Containers {
			more := min(spare, 254)
			s.Pods[i].Containers[k].Image += strings.Repeat("i", more)
			spare -= more
		}
	}
	return s
}

func bigThree(n int) ckthree.State {
	s := manyThree(6, 16)
	for i := range s.Pods {
		for k := range s.Pods[i].Pod.Containers {
			s.Pods[i].Pod.Containers[k].Command = make([]string, 16)
		}
	}
	spare := n - len(rawThree(s))
	for i := range s.Pods {
		for k := range s.Pods[i].Pod.Containers {
			for j := range s.Pods[i].Pod.Containers[k].Command {
				more := min(spare, 4096)
				s.Pods[i].Pod.Containers[k].Command[j] = strings.Repeat("x", more)
				spare -= more
			}
		}
	}
	return s
}

// P21.1: how long a payload may be: of version 1 none is too long.
func TestLongPayloads(t *testing.T) {
	if b := hold(t, "the longest state", ones(), bigOne()); len(b) != 13+6+1024*(66+255+257+1) {
		t.Errorf("the longest checkpoint of version 1 has %d bytes", len(b))
	}
	for _, n := range []int{mostPayload - 1, mostPayload} {
		two, three := hold(t, fmt.Sprint(n, " bytes"), twos(), bigTwo(n)), hold(t, fmt.Sprint(n, " bytes"), threes(), bigThree(n))
		if len(two) != n+13 || len(three) != n+13 {
			t.Errorf("of %d bytes there are checkpoints of %d and %d", n, len(two), len(three))
		}
	}
	for _, n := range []int{mostPayload + 1, mostPayload + 2, mostPayload + 4096, 1 << 24} {
		unsaved(t, fmt.Sprint(n, " bytes"), twos(), bigTwo(n), api.ErrLong)
		unsaved(t, fmt.Sprint(n, " bytes"), threes(), bigThree(n), api.ErrLong)
		refused(t, fmt.Sprint(n, " bytes"), frameOf(2, rawTwo(bigTwo(n))), api.ErrLong)
		refused(t, fmt.Sprint(n, " bytes"), frameOf(3, rawThree(bigThree(n))), api.ErrLong)
	}
}

// P21.1: what is wrong with a state is told ahead of bytes that are too many.
func TestLongAndWrong(t *testing.T) {
	for _, x := range spoilsTwo() {
		for _, i := range []int{0, 511, 1022} {
			s := bigTwo(1 << 24)
			x.do(&s, i)
			unsaved(t, "too long, and "+x.what, twos(), s, x.want)
		}
	}
	for _, x := range spoilsThree() {
		for _, i := range []int{0, 3, 4} {
			s := bigThree(1 << 24)
			x.do(&s, i)
			unsaved(t, "too long, and "+x.what, threes(), s, x.want)
		}
	}
}

// P21.1, R5: each call answers the same again.
func TestSavedAgain(t *testing.T) {
	for range 3 {
		a, b, c := hold(t, "a state", ones(), plainOne()), hold(t, "a state", twos(), plainTwo()), hold(t, "a state", threes(), plainThree())
		one, _ := ckpt.One(plainOne())
		two, _ := ckpt.Two(plainTwo())
		three, _ := ckpt.Three(plainThree())
		if a != one || b != two || c != three {
			t.Fatal("the same state has two checkpoints")
		}
	}
}
