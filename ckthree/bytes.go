package ckthree

import (
	"strings"

	"bosun/api"
	"bosun/pack"
	"bosun/spec"
)

// How many bytes each number has; of how many pods, or items of another list, there are, the number ahead of them.
const (
	seqBytes     = 8
	podsBytes    = 2
	listBytes    = 1
	restartBytes = 1
	graceBytes   = 2
	numberBytes  = 2
	protoBytes   = 1
	cpuBytes     = 4
	memoryBytes  = 4
)

// Encode is a state's bytes.
func Encode(s State) (string, api.Errno) {
	if e := s.Check(); e != api.OK {
		return "", e
	}
	w := &writer{}
	w.number(seqBytes, s.Seq)
	w.number(podsBytes, uint64(len(s.Pods)))
	for _, p := range s.Pods {
		w.text(p.File)
		w.pod(p.Pod)
	}
	return w.String(), api.OK
}

// writer writes the parts of a state that may be.
type writer struct {
	strings.Builder
}

// number writes a number of n bytes.
func (w *writer) number(n int, v uint64) { w.WriteString(pack.Put(n, v)) }

// text writes a text. None of a state that may be is too long to have bytes.
func (w *writer) text(s string) {
	b, _ := pack.Text(s)
	w.WriteString(b)
}

// many writes how many items a list has.
func (w *writer) many(n int) { w.number(listBytes, uint64(n)) }

// pod writes a pod.
func (w *writer) pod(p spec.Pod) {
	w.text(p.Name)
	w.text(p.Namespace)
	w.number(restartBytes, uint64(p.Restart))
	w.number(graceBytes, uint64(p.Grace))
	w.WriteString(pack.Flag(p.Host))
	w.many(len(p.Containers))
	for _, c := range p.Containers {
		w.container(c)
	}
}

// container writes a container.
func (w *writer) container(c spec.Container) {
	w.text(c.Name)
	w.text(c.Image)
	w.many(len(c.Command))
	for _, s := range c.Command {
		w.text(s)
	}
	w.many(len(c.Ports))
	for _, p := range c.Ports {
		w.number(numberBytes, uint64(p.Number))
		w.number(protoBytes, uint64(p.Proto))
	}
	w.number(cpuBytes, uint64(c.Cpu))
	w.number(memoryBytes, uint64(c.Memory))
	w.many(len(c.Env))
	for _, v := range c.Env {
		w.text(v.Name)
		w.text(v.Value)
	}
}

// Decode is the state of bytes.
func Decode(b string) (State, api.Errno) {
	t := &taker{pack.Taker{Rest: b}}
	s := State{Seq: t.Take(seqBytes)}
	t.upTo(api.MaxPods, podsBytes, func() { s.Pods = append(s.Pods, Pod{File: t.Text(), Pod: t.pod()}) })
	if e := t.End(); e != api.OK {
		return State{}, e
	}
	if e := s.Check(); e != api.OK {
		return State{}, e
	}
	return s, api.OK
}

// taker takes the parts of a state.
type taker struct {
	pack.Taker
}

// upTo takes how many items there are, a number of so many bytes, and has each item laid. With an error it ends, for
// nothing more is taken then.
func (t *taker) upTo(most uint64, bytes int, lay func()) {
	n := t.Take(bytes)
	if n > most {
		t.Err = api.ErrFull
		return
	}
	for range n {
		lay()
		if t.Err != api.OK {
			return
		}
	}
}

// list takes a list of a pod or of a container, and has each of its items laid.
func (t *taker) list(lay func()) { t.upTo(api.MaxList, listBytes, lay) }

// pod takes a pod.
func (t *taker) pod() spec.Pod {
	p := spec.Pod{
		Name:      t.Text(),
		Namespace: t.Text(),
		Restart:   spec.Restart(t.Take(restartBytes)),
		Grace:     int64(t.Take(graceBytes)),
		Host:      t.Flag(),
	}
	t.list(func() { p.Containers = append(p.Containers, t.container()) })
	return p
}

// container takes a container.
func (t *taker) container() spec.Container {
	c := spec.Container{Name: t.Text(), Image: t.Text()}
	t.list(func() { c.Command = append(c.Command, t.Text()) })
	t.list(func() { c.Ports = append(c.Ports, t.port()) })
	c.Cpu = int64(t.Take(cpuBytes))
	c.Memory = int64(t.Take(memoryBytes))
	t.list(func() { c.Env = append(c.Env, spec.Env{Name: t.Text(), Value: t.Text()}) })
	return c
}

// port takes a port.
func (t *taker) port() spec.Port {
	return spec.Port{Number: int64(t.Take(numberBytes)), Proto: spec.Proto(t.Take(protoBytes))}
}
