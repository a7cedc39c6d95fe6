package spec_test

import (
	"math"
	"strings"
	"testing"

	"bosun/api"
	"bosun/spec"
)

// small is a container with no more than it needs.
func small(name string) spec.Container {
	return spec.Container{Name: name, Image: "nginx", Cpu: 100, Memory: 64}
}

// full is a container that may be, with two items in each list.
func full(name string) spec.Container {
	return spec.Container{
		Name:    name,
		Image:   "docker.io/nginx:1",
		Command: []string{"serve", "-v"},
		Ports:   []spec.Port{{Number: 80, Proto: spec.TCP}, {Number: 53, Proto: spec.UDP}},
		Cpu:     250,
		Memory:  128,
		Env:     []spec.Env{{Name: "HOME", Value: "/"}, {Name: "LANG", Value: "é"}},
	}
}

// podOf is a pod that may be, if the containers may.
func podOf(l ...spec.Container) spec.Pod {
	return spec.Pod{Name: "web.example", Namespace: "shop", Restart: spec.OnFailure, Grace: 10, Host: true, Containers: l}
}

// plain is a pod that may be, of three full containers.
func plain() spec.Pod { return podOf(full("first"), full("second"), full("third")) }

func holdCheck(t *testing.T, what string, p spec.Pod, want api.Errno) {
	t.Helper()
	if e := p.Check(); e != want {
		t.Errorf("%s: Check answers %v, not %v", what, e, want)
	}
}

// P14.1, P14.3: the chapter's example.
func TestExample(t *testing.T) {
	p := spec.Pod{Name: "web", Containers: []spec.Container{{Name: "c", Image: "nginx"}}}
	holdCheck(t, "the example without defaults", p, api.ErrName)
	d := p.Default()
	holdCheck(t, "the example", d, api.OK)
	c := spec.Container{Name: "c", Image: "nginx", Cpu: 100, Memory: 64}
	want := spec.Pod{Name: "web", Namespace: "default", Grace: 30, Containers: []spec.Container{c}}
	if !d.Same(want) {
		t.Errorf("the example with its defaults is %+v", d)
	}
}

// P14.2
func TestRestartWords(t *testing.T) {
	if spec.Always != 0 || spec.OnFailure != 1 || spec.Never != 2 {
		t.Error("the Restarts are other numbers")
	}
	for r, word := range map[spec.Restart]string{spec.Always: "always", spec.OnFailure: "on-failure", spec.Never: "never"} {
		if r.String() != word {
			t.Errorf("String of the Restart %d is %q, not %q", int(r), r.String(), word)
		}
		if got, ok := spec.Restarts(word); got != r || !ok {
			t.Errorf("Restarts of %q: %d, %t", word, int(got), ok)
		}
	}
	for _, n := range othersThan(3) {
		if s := spec.Restart(n).String(); s != "none" {
			t.Errorf("String of the Restart %d is %q", n, s)
		}
	}
	for _, s := range append(noWords("always", "on-failure", "never"), "tcp", "udp", "onfailure", "on_failure", "on failure", "OnFailure", "on-", "failure") {
		if r, ok := spec.Restarts(s); r != 0 || ok {
			t.Errorf("Restarts of %q: %d, %t", s, int(r), ok)
		}
	}
}

// P14.2
func TestProtoWords(t *testing.T) {
	if spec.TCP != 0 || spec.UDP != 1 {
		t.Error("the Protos are other numbers")
	}
	for r, word := range map[spec.Proto]string{spec.TCP: "tcp", spec.UDP: "udp"} {
		if r.String() != word {
			t.Errorf("String of the Proto %d is %q, not %q", int(r), r.String(), word)
		}
		if got, ok := spec.Protos(word); got != r || !ok {
			t.Errorf("Protos of %q: %d, %t", word, int(got), ok)
		}
	}
	for _, n := range othersThan(2) {
		if s := spec.Proto(n).String(); s != "none" {
			t.Errorf("String of the Proto %d is %q", n, s)
		}
	}
	for _, s := range append(noWords("tcp", "udp"), "always", "never", "sctp", "tcpudp", "tcp/udp") {
		if r, ok := spec.Protos(s); r != 0 || ok {
			t.Errorf("Protos of %q: %d, %t", s, int(r), ok)
		}
	}
}

// othersThan are numbers that aren't from 0 to n - 1.
func othersThan(n int) []int {
	return []int{-1, -2, -n, n, n + 1, 255, 256, 1 << 32, 1<<32 + 1, -1 << 32, math.MinInt, math.MaxInt}
}

// noWords are texts that are none of the words, but much like them, and the numbers that they stand for.
func noWords(words ...string) []string {
	l := []string{"", " ", "none", "0", "1", "2", "-", "\x00", "\xff", "other", "null", "true"}
	for _, w := range words {
		l = append(l, " "+w, w+" ", "\t"+w, w+"\n", w+"\x00", strings.ToUpper(w), strings.ToUpper(w[:1])+w[1:])
		l = append(l, w[1:], w[:len(w)-1], w+w, w+"s", "\""+w+"\"", w[:1]+strings.ToUpper(w[1:]), strings.Repeat(w, 1<<16))
	}
	return l
}
