package upgrade_test

import (
	"fmt"
	"math"
	"slices"
	"strings"
	"testing"

	"bosun/api"
	"bosun/ckone"
	"bosun/cktwo"
	"bosun/upgrade"
)

// texts are texts, those that may stand somewhere, and others.
func texts() []string {
	label := strings.Repeat("a", 63)
	return []string{
		"", "a", "main", "default", "a.b", "a/b", "-", "A", "a b", "é", "\xff", "\x00", "a\n", label, label + "a",
		strings.Repeat("f", 64), strings.Repeat("f", 65), label + "." + label + "." + label + "." + label[:61], strings.Repeat("i", 255),
		strings.Repeat("i", 256), strings.Repeat("x", 4096), strings.Repeat("x", 4097), strings.Repeat("\xff", 70000),
	}
}

// manyOne and manyTwo are states of so many pods; up to 1024 of them may be.
func manyOne(n int) ckone.State {
	s := ckone.State{Seq: 9, Pods: make([]ckone.Pod, n)}
	for i := range s.Pods {
		s.Pods[i] = ckone.Pod{File: fmt.Sprintf("f%06d", i), Name: "n", Image: fmt.Sprint("i", i), Restart: uint8(i % 3)}
	}
	return s
}

func manyTwo(n, containers int) cktwo.State {
	s := cktwo.State{Seq: 9, Pods: make([]cktwo.Pod, n)}
	for i := range s.Pods {
		s.Pods[i] = cktwo.Pod{File: fmt.Sprintf("f%06d", i), Name: "n", Namespace: fmt.Sprint("s", i), Restart: uint8(i % 3), Grace: uint16(i%3600 + 1)}
		for k := range containers {
			s.Pods[i].Containers = append(s.Pods[i].Containers, cktwo.Container{Name: fmt.Sprint("c", k), Image: fmt.Sprint("i", i, ".", k)})
		}
	}
	return s
}

// P20.1, P20.2: each Seq from end to end stays.
func TestSeq(t *testing.T) {
	for _, seq := range []uint64{0, 1, 255, 256, 65535, 65536, 1 << 31, math.MaxUint32, math.MaxUint32 + 1, math.MaxInt64, math.MaxInt64 + 1, math.MaxUint64 - 1, math.MaxUint64} {
		one, two := plainOne(), plainTwo()
		one.Seq, two.Seq = uint32(seq), seq
		holdOne(t, "a Seq", one)
		holdTwo(t, "a Seq", two)
		if s := upgrade.Two(one); s.Seq != seq%(1<<32) {
			t.Errorf("Two makes of the Seq %d the Seq %d", one.Seq, s.Seq)
		}
		if s := upgrade.Both(one); s.Seq != seq%(1<<32) {
			t.Errorf("Both makes of the Seq %d the Seq %d", one.Seq, s.Seq)
		}
		if s := upgrade.Three(two); s.Seq != seq {
			t.Errorf("Three makes of the Seq %d the Seq %d", seq, s.Seq)
		}
	}
}

// P20.1, P20.2: how many pods there are, and more than may be.
func TestCountOfPods(t *testing.T) {
	for _, n := range []int{0, 1, 2, 3, 255, 256, 257, 1023, 1024, 1025, 2000, 1 << 10 * 3} {
		one, two := manyOne(n), manyTwo(n, n%4)
		if got := upgrade.Two(one); len(got.Pods) != n || !same(got, twoOf(one), false) {
			t.Fatalf("of %d pods Two makes %d", n, len(got.Pods))
		}
		if got := upgrade.Both(one); len(got.Pods) != n || !same(got, threeOf(twoOf(one)), false) {
			t.Fatalf("of %d pods Both makes %d", n, len(got.Pods))
		}
		three := upgrade.Three(two)
		if len(three.Pods) != n || !same(three, threeOf(two), false) {
			t.Fatalf("of %d pods Three makes %d", n, len(three.Pods))
		}
		if was, ok := upgrade.Down(three); !ok || !same(was, two, false) {
			t.Fatalf("of %d pods Down makes %d", n, len(was.Pods))
		}
	}
	for n := range 4 {
		holdOne(t, "few pods", manyOne(n))
		holdTwo(t, "few pods", manyTwo(n, 2))
	}
}

// P20.1, P20.2: how many containers a pod has, and more than may be.
func TestCountOfContainers(t *testing.T) {
	for _, n := range []int{0, 1, 2, 15, 16, 17, 100, 255, 256, 257, 1000} {
		holdTwo(t, fmt.Sprint(n, " containers of one pod"), manyTwo(1, n))
		for i := range plainTwo().Pods {
			s := plainTwo()
			s.Pods[i].Containers = manyTwo(1, n).Pods[0].Containers
			holdTwo(t, fmt.Sprint(n, " containers of a pod among others"), s)
		}
	}
}

// P20.1, P20.2: each field with each text, at each pod and container, whether it may stand there or not.
func TestTexts(t *testing.T) {
	for _, text := range texts() {
		for i := range plainOne().Pods {
			for what, field := range map[string]func(p *ckone.Pod) *string{
				"the File": func(p *ckone.Pod) *string { return &p.File }, "the Name": func(p *ckone.Pod) *string { return &p.Name },
				"the Image": func(p *ckone.Pod) *string { return &p.Image },
			} {
				s := plainOne()
				*field(&s.Pods[i]) = text
				holdOne(t, what, s)
			}
		}
		for i, p := range plainTwo().Pods {
			for what, field := range map[string]func(p *cktwo.Pod) *string{
				"the File": func(p *cktwo.Pod) *string { return &p.File }, "the Name": func(p *cktwo.Pod) *string { return &p.Name },
				"the Namespace": func(p *cktwo.Pod) *string { return &p.Namespace },
			} {
				s := plainTwo()
				*field(&s.Pods[i]) = text
				holdTwo(t, what, s)
			}
			for k := range p.Containers {
				s := plainTwo()
				s.Pods[i].Containers[k].Name = text
				holdTwo(t, "a container's Name", s)
				s = plainTwo()
				s.Pods[i].Containers[k].Image = text
				holdTwo(t, "a container's Image", s)
			}
		}
	}
}

// P20.1, P20.2: each Restart and each Grace there is, those that may not be, too.
func TestNumbers(t *testing.T) {
	for n := range 256 {
		for i := range plainOne().Pods {
			s := plainOne()
			s.Pods[i].Restart = uint8(n)
			holdOne(t, fmt.Sprint("the Restart ", n), s)
		}
		for i := range plainTwo().Pods {
			s := plainTwo()
			s.Pods[i].Restart = uint8(n)
			holdTwo(t, fmt.Sprint("the Restart ", n), s)
			if p := upgrade.Three(s).Pods[i].Pod; int(p.Restart) != n {
				t.Fatalf("the Restart %d becomes %d", n, int(p.Restart))
			}
		}
	}
	s := plainTwo()
	for n := range 65536 {
		for i := range s.Pods {
			s.Pods[i].Grace = uint16(n ^ i)
		}
		three := upgrade.Three(s)
		for i, p := range three.Pods {
			if p.Pod.Grace != int64(n^i) {
				t.Fatalf("the Grace %d becomes %d", n^i, p.Pod.Grace)
			}
		}
		if was, ok := upgrade.Down(three); !ok || !was.Same(s) {
			t.Fatalf("the Grace %d isn't there any more", n)
		}
	}
	for _, n := range []uint16{0, 1, 30, 3600, 3601, math.MaxUint16} {
		s := plainTwo()
		s.Pods[1].Grace = n
		holdTwo(t, fmt.Sprint("the Grace ", n), s)
	}
}

// P20.1, P20.2: Files that are alike or fall, containers of one Name, and pods that are alike stay as they stand.
func TestOrder(t *testing.T) {
	for _, files := range []string{"a b c", "c b a", "a a a", "a c b", "b a c", "b a b", "a", "a b c d e f", "f e d c b a"} {
		var one ckone.State
		var two cktwo.State
		for _, f := range strings.Fields(files) {
			one.Pods = append(one.Pods, ckone.Pod{File: f, Name: "n" + f, Image: "i"})
			two.Pods = append(two.Pods, cktwo.Pod{File: f, Name: "n", Namespace: "s", Grace: 1, Containers: []cktwo.Container{{Name: f, Image: "i"}, {Name: "b", Image: "i"}, {Name: "b", Image: f}}})
		}
		holdOne(t, files, one)
		holdTwo(t, files, two)
	}
	one, two := plainOne(), plainTwo()
	one.Pods = slices.Repeat(one.Pods[:1], 5)
	two.Pods = slices.Repeat(two.Pods[:1], 5) // their containers are one list
	holdOne(t, "pods alike", one)
	holdTwo(t, "pods alike", two)
}

// ones and twos are states that may be, at the limits of their fields.
func ones() []ckone.State {
	label := strings.Repeat("a", 63)
	l := []ckone.State{{}, {Seq: math.MaxUint32}, plainOne(), manyOne(1), manyOne(1024)}
	for i := range plainOne().Pods {
		for _, do := range []func(p *ckone.Pod){
			func(p *ckone.Pod) { p.File += strings.Repeat("-", 64-len(p.File)) },
			func(p *ckone.Pod) { p.Name = "0" },
			func(p *ckone.Pod) { p.Name = label + "." + label + "." + label + "." + label[:61] },
			func(p *ckone.Pod) { p.Name = strings.Repeat("a.", 126) + "a" },
			func(p *ckone.Pod) { p.Image = "0" },
			func(p *ckone.Pod) { p.Image = strings.Repeat("i", 255) },
			func(p *ckone.Pod) { p.Restart = 0 },
			func(p *ckone.Pod) { p.Restart = 1 },
			func(p *ckone.Pod) { p.Restart = 2 },
		} {
			s := plainOne()
			do(&s.Pods[i])
			l = append(l, s)
		}
	}
	return l
}

func twos() []cktwo.State {
	label := strings.Repeat("a", 63)
	l := []cktwo.State{{}, {Seq: math.MaxUint64}, plainTwo(), manyTwo(1, 1), manyTwo(1, 16), manyTwo(1024, 1), manyTwo(60, 16)}
	for i, p := range plainTwo().Pods {
		for _, do := range []func(p *cktwo.Pod){
			func(p *cktwo.Pod) { p.File += strings.Repeat("-", 64-len(p.File)) },
			func(p *cktwo.Pod) { p.Name = "0" },
			func(p *cktwo.Pod) { p.Name = label + "." + label + "." + label + "." + label[:61] },
			func(p *cktwo.Pod) { p.Namespace = "0" },
			func(p *cktwo.Pod) { p.Namespace = label },
			func(p *cktwo.Pod) { p.Restart = 0 },
			func(p *cktwo.Pod) { p.Restart = 1 },
			func(p *cktwo.Pod) { p.Restart = 2 },
			func(p *cktwo.Pod) { p.Grace = 1 },
			func(p *cktwo.Pod) { p.Grace = 30 },
			func(p *cktwo.Pod) { p.Grace = 3600 },
			func(p *cktwo.Pod) { p.Containers = p.Containers[:1] },
			func(p *cktwo.Pod) { p.Containers = manyTwo(1, 16).Pods[0].Containers },
		} {
			s := plainTwo()
			do(&s.Pods[i])
			l = append(l, s)
		}
		for k := range p.Containers {
			for _, do := range []func(c *cktwo.Container){
				func(c *cktwo.Container) { c.Name = "9" },
				func(c *cktwo.Container) { c.Name = label },
				func(c *cktwo.Container) { c.Image = "0" },
				func(c *cktwo.Container) { c.Image = strings.Repeat("i", 255) },
			} {
				s := plainTwo()
				do(&s.Pods[i].Containers[k])
				l = append(l, s)
			}
		}
	}
	return l
}

// P20.3: states that may be, at their limits, are made such as may be.
func TestMayBe(t *testing.T) {
	for i, s := range ones() {
		two, both := upgrade.Two(s), upgrade.Both(s)
		if a, b, c := s.Check(), two.Check(), both.Check(); a != api.OK || b != api.OK || c != api.OK {
			t.Errorf("state %d of version 1: of it there is said %v, of what is made of it %v and %v", i, a, b, c)
		}
	}
	for i, s := range twos() {
		three := upgrade.Three(s)
		if a, b := s.Check(), three.Check(); a != api.OK || b != api.OK {
			t.Errorf("state %d of version 2: of it there is said %v, of what is made of it %v", i, a, b)
		}
		if was, ok := upgrade.Down(three); !ok || !was.Same(s) {
			t.Errorf("state %d of version 2 doesn't come back", i)
		}
	}
}
