package upgrade_test

import (
	"reflect"
	"testing"

	"bosun/api"
	"bosun/ckone"
	"bosun/ckthree"
	"bosun/cktwo"
	"bosun/spec"
	"bosun/upgrade"
)

// plainOne is a state of version 1, of pods that may be.
func plainOne() ckone.State {
	return ckone.State{Seq: 1<<31 + 7, Pods: []ckone.Pod{
		{File: "a.json", Name: "web", Image: "nginx"},
		{File: "b/c.yaml", Name: "db.main", Image: "docker.io/pg:9", Restart: 1},
		{File: "b/d_1", Name: "x", Image: "y", Restart: 2},
	}}
}

// plainTwo is a state of version 2, of pods that may be.
func plainTwo() cktwo.State {
	return cktwo.State{Seq: 1<<40 + 7, Pods: []cktwo.Pod{
		{File: "a.json", Name: "web", Namespace: "default", Grace: 30, Containers: []cktwo.Container{
			{Name: "main", Image: "nginx"}, {Name: "b", Image: "i"}, {Name: "c", Image: "i"}}},
		{File: "b/c.yaml", Name: "db.main", Namespace: "shop", Restart: 1, Grace: 3600, Containers: []cktwo.Container{
			{Name: "first", Image: "docker.io/pg:9"}, {Name: "second", Image: "x"}, {Name: "third", Image: "x"}, {Name: "fourth", Image: "first"}}},
		{File: "b/d_1", Name: "x", Namespace: "y", Restart: 2, Grace: 1, Containers: []cktwo.Container{
			{Name: "c", Image: "nginx"}, {Name: "0", Image: "0A@"}, {Name: "d", Image: "nginx"}}},
		{File: "b/d_1.json", Name: "x", Namespace: "y", Restart: 2, Grace: 258, Containers: []cktwo.Container{{Name: "c", Image: "nginx"}}},
	}}
}

// same says whether two things are alike, part by part; nil lists and empty ones are. With what stands behind the ends of
// the lists, if room is asked for.
func same[T any](a, b T, room bool) bool {
	return sameValues(reflect.ValueOf(a), reflect.ValueOf(b), room)
}

func sameValues(a, b reflect.Value, room bool) bool {
	switch a.Kind() {
	case reflect.Struct:
		for i := range a.NumField() {
			if !sameValues(a.Field(i), b.Field(i), room) {
				return false
			}
		}
		return true
	case reflect.Slice:
		if a.Len() != b.Len() || room && a.Cap() != b.Cap() {
			return false
		}
		if room {
			a, b = a.Slice(0, a.Cap()), b.Slice(0, b.Cap())
		}
		for i := range a.Len() {
			if !sameValues(a.Index(i), b.Index(i), room) {
				return false
			}
		}
		return true
	}
	return a.Interface() == b.Interface()
}

// copyOf is a copy in memory of its own, with what stands behind the ends of the lists.
func copyOf[T any](x T) T {
	to := reflect.New(reflect.TypeOf(x)).Elem()
	copyTo(to, reflect.ValueOf(x))
	return to.Interface().(T)
}

func copyTo(to, from reflect.Value) {
	switch from.Kind() {
	case reflect.Struct:
		for i := range from.NumField() {
			copyTo(to.Field(i), from.Field(i))
		}
	case reflect.Slice:
		if from.IsNil() {
			return
		}
		l := reflect.MakeSlice(from.Type(), from.Cap(), from.Cap())
		for i := range from.Cap() {
			copyTo(l.Index(i), from.Slice(0, from.Cap()).Index(i))
		}
		to.Set(l.Slice(0, from.Len()))
	default:
		to.Set(from)
	}
}

// span is where the items of a list lie, with the room behind its end.
type span struct{ from, to uintptr }

// spans are those of all lists in a thing.
func spans(v reflect.Value) []span {
	var l []span
	switch v.Kind() {
	case reflect.Struct:
		for i := range v.NumField() {
			l = append(l, spans(v.Field(i))...)
		}
	case reflect.Slice:
		if v.Cap() > 0 {
			l = append(l, span{v.Pointer(), v.Pointer() + uintptr(v.Cap())*v.Type().Elem().Size()})
		}
		for i := range v.Len() {
			l = append(l, spans(v.Index(i))...)
		}
	}
	return l
}

// holdOwn holds that no list of what was answered shares memory with another one, nor with one of what was handed in.
func holdOwn(t *testing.T, what string, in, answer any) {
	t.Helper()
	own := spans(reflect.ValueOf(answer))
	taken := append(spans(reflect.ValueOf(in)), own...)
	for i, x := range own {
		for k, y := range taken {
			if k != len(taken)-len(own)+i && x.from < y.to && y.from < x.to {
				t.Fatalf("%s: lists share memory", what)
			}
		}
	}
}

// twoOf is what the chapter's beginning says of a state of version 1.
func twoOf(s ckone.State) cktwo.State {
	to := cktwo.State{Seq: uint64(s.Seq)}
	for _, p := range s.Pods {
		var q cktwo.Pod
		q.File, q.Name, q.Restart = p.File, p.Name, p.Restart
		q.Namespace, q.Grace = "default", 30
		q.Containers = make([]cktwo.Container, 1)
		q.Containers[0].Name = "main"
		q.Containers[0].Image = p.Image
		to.Pods = append(to.Pods, q)
	}
	return to
}

// threeOf is what the chapter's beginning says of a state of version 2.
func threeOf(s cktwo.State) ckthree.State {
	to := ckthree.State{Seq: s.Seq}
	for _, p := range s.Pods {
		var q ckthree.Pod
		q.File, q.Pod.Name, q.Pod.Namespace = p.File, p.Name, p.Namespace
		q.Pod.Restart, q.Pod.Grace, q.Pod.Host = spec.Restart(p.Restart), int64(p.Grace), false
		for _, c := range p.Containers {
			q.Pod.Containers = append(q.Pod.Containers, spec.Container{Name: c.Name, Image: c.Image, Cpu: 100, Memory: 64})
		}
		to.Pods = append(to.Pods, q)
	}
	return to
}

// holdOne holds what is made of a state of version 1.
func holdOne(t *testing.T, what string, s ckone.State) {
	t.Helper()
	before := copyOf(s)
	two, both := upgrade.Two(s), upgrade.Both(s)
	if want := twoOf(s); !same(two, want, false) {
		t.Fatalf("%s: Two answers %+v, not %+v", what, two, want)
	}
	if want := upgrade.Three(two); !same(both, want, false) || !same(both, threeOf(twoOf(s)), false) {
		t.Fatalf("%s: Both answers %+v, and Three of Two %+v", what, both, want)
	}
	holdOwn(t, what, s, two)
	holdOwn(t, what, s, both)
	if !same(s, before, true) {
		t.Fatalf("%s: the state isn't as it was", what)
	}
	holdTwo(t, what, two)
}

// holdTwo holds what is made of a state of version 2, and that it comes back.
func holdTwo(t *testing.T, what string, s cktwo.State) {
	t.Helper()
	before := copyOf(s)
	three := upgrade.Three(s)
	if want := threeOf(s); !same(three, want, false) {
		t.Fatalf("%s: Three answers %+v, not %+v", what, three, want)
	}
	holdOwn(t, what, s, three)
	if !same(s, before, true) {
		t.Fatalf("%s: the state isn't as it was", what)
	}
	holdDown(t, what, three, s, true)
}

// holdDown holds what a state of version 3 was made of.
func holdDown(t *testing.T, what string, s ckthree.State, want cktwo.State, ok bool) {
	t.Helper()
	before := copyOf(s)
	was, there := upgrade.Down(s)
	if there != ok || !same(was, want, false) {
		t.Fatalf("%s: Down answers %+v and %t, not %+v and %t", what, was, there, want, ok)
	}
	holdOwn(t, what, s, was)
	if !same(s, before, true) {
		t.Fatalf("%s: the state isn't as it was", what)
	}
}

// P20.1: the chapter's example.
func TestExample(t *testing.T) {
	s := upgrade.Both(ckone.State{Seq: 1, Pods: []ckone.Pod{{File: "pods/a.json", Name: "web", Image: "nginx"}}})
	if c := s.Pods[0].Pod.Containers[0]; len(s.Pods[0].Pod.Containers) != 1 || c.Name != "main" || c.Image != "nginx" || c.Cpu != 100 {
		t.Errorf("the containers are %+v", s.Pods[0].Pod.Containers)
	}
}

// P20.1: states whose parts differ, written out part by part.
func TestWrittenOut(t *testing.T) {
	two := cktwo.State{Seq: 1<<31 + 7, Pods: []cktwo.Pod{
		{File: "a.json", Name: "web", Namespace: "default", Restart: 0, Grace: 30, Containers: []cktwo.Container{{Name: "main", Image: "nginx"}}},
		{File: "b/c.yaml", Name: "db.main", Namespace: "default", Restart: 1, Grace: 30, Containers: []cktwo.Container{{Name: "main", Image: "docker.io/pg:9"}}},
		{File: "b/d_1", Name: "x", Namespace: "default", Restart: 2, Grace: 30, Containers: []cktwo.Container{{Name: "main", Image: "y"}}},
	}}
	if s := upgrade.Two(plainOne()); !same(s, two, false) {
		t.Errorf("Two answers %+v", s)
	}
	of := func(name, image string) spec.Container {
		return spec.Container{Name: name, Image: image, Command: nil, Ports: nil, Cpu: 100, Memory: 64, Env: nil}
	}
	pod := func(name, namespace string, restart spec.Restart, grace int64, l ...spec.Container) spec.Pod {
		return spec.Pod{Name: name, Namespace: namespace, Restart: restart, Grace: grace, Host: false, Containers: l}
	}
	three := ckthree.State{Seq: 1<<40 + 7, Pods: []ckthree.Pod{
		{File: "a.json", Pod: pod("web", "default", spec.Always, 30, of("main", "nginx"), of("b", "i"), of("c", "i"))},
		{File: "b/c.yaml", Pod: pod("db.main", "shop", spec.OnFailure, 3600, of("first", "docker.io/pg:9"), of("second", "x"), of("third", "x"), of("fourth", "first"))},
		{File: "b/d_1", Pod: pod("x", "y", spec.Never, 1, of("c", "nginx"), of("0", "0A@"), of("d", "nginx"))},
		{File: "b/d_1.json", Pod: pod("x", "y", spec.Never, 258, of("c", "nginx"))},
	}}
	if s := upgrade.Three(plainTwo()); !same(s, three, false) {
		t.Errorf("Three answers %+v", s)
	}
	if s, ok := upgrade.Down(three); !same(s, plainTwo(), false) || !ok {
		t.Errorf("Down answers %+v, %t", s, ok)
	}
	both := ckthree.State{Seq: 1<<31 + 7, Pods: []ckthree.Pod{
		{File: "a.json", Pod: pod("web", "default", spec.Always, 30, of("main", "nginx"))},
		{File: "b/c.yaml", Pod: pod("db.main", "default", spec.OnFailure, 30, of("main", "docker.io/pg:9"))},
		{File: "b/d_1", Pod: pod("x", "default", spec.Never, 30, of("main", "y"))},
	}}
	if s := upgrade.Both(plainOne()); !same(s, both, false) {
		t.Errorf("Both answers %+v", s)
	}
}

// P20.1, P20.2, R4: states without pods, and pods without containers; nil lists and empty ones are one.
func TestEmptyLists(t *testing.T) {
	for _, l := range [][]ckone.Pod{nil, {}, make([]ckone.Pod, 0, 3), plainOne().Pods[:0]} {
		holdOne(t, "no pods of version 1", ckone.State{Seq: 5, Pods: l})
		if s := upgrade.Two(ckone.State{Seq: 5, Pods: l}); s.Seq != 5 || len(s.Pods) != 0 {
			t.Errorf("of no pods Two makes %+v", s)
		}
	}
	for _, l := range [][]cktwo.Pod{nil, {}, make([]cktwo.Pod, 0, 3), plainTwo().Pods[:0]} {
		holdTwo(t, "no pods of version 2", cktwo.State{Seq: 5, Pods: l})
	}
	for _, l := range [][]ckthree.Pod{nil, {}, make([]ckthree.Pod, 0, 3), upgrade.Three(plainTwo()).Pods[:0]} {
		holdDown(t, "no pods of version 3", ckthree.State{Seq: 5, Pods: l}, cktwo.State{Seq: 5}, true)
	}
	for i := range plainTwo().Pods {
		for _, l := range [][]cktwo.Container{nil, {}, make([]cktwo.Container, 0, 3), plainTwo().Pods[i].Containers[:0]} {
			s := plainTwo()
			s.Pods[i].Containers = l
			holdTwo(t, "no containers", s)
		}
		for _, l := range [][]spec.Container{nil, {}, make([]spec.Container, 0, 3)} {
			s, want := upgrade.Three(plainTwo()), plainTwo()
			s.Pods[i].Pod.Containers, want.Pods[i].Containers = l, nil
			holdDown(t, "no containers", s, want, true)
		}
		for k := range plainTwo().Pods[i].Containers {
			s := upgrade.Three(plainTwo())
			c := &s.Pods[i].Pod.Containers[k]
			c.Command, c.Ports, c.Env = []string{}, []spec.Port{}, []spec.Env{}
			holdDown(t, "empty lists of a container", s, plainTwo(), true)
			c.Command, c.Ports, c.Env = []string{"a"}[:0], []spec.Port{{Number: 1}}[:0], []spec.Env{{Name: "A"}}[:0]
			holdDown(t, "lists of a container with room", s, plainTwo(), true)
		}
	}
	for what, s := range map[string]cktwo.State{"the zero state": {}, "a zero pod": {Pods: make([]cktwo.Pod, 1)}, "zero pods": {Pods: make([]cktwo.Pod, 3)}} {
		holdTwo(t, what, s)
	}
	holdOne(t, "the zero state", ckone.State{})
	holdOne(t, "zero pods", ckone.State{Pods: make([]ckone.Pod, 2)})
}

// R3: what stands behind the ends of lists plays no part, and stays.
func TestRoom(t *testing.T) {
	one, two := plainOne(), plainTwo()
	one.Pods, two.Pods = one.Pods[:2], two.Pods[:2]
	two.Pods[1].Containers = two.Pods[1].Containers[:1]
	holdOne(t, "pods behind the end", one)
	holdTwo(t, "pods and containers behind the ends", two)
	three := upgrade.Three(plainTwo())
	three.Pods = three.Pods[:2]
	three.Pods[:4][3].Pod.Host = true
	three.Pods[1].Pod.Containers = three.Pods[1].Pod.Containers[:1]
	three.Pods[1].Pod.Containers[:2][1].Cpu = 5
	holdDown(t, "pods and containers behind the ends", three, two, true)
}

// R3: what is answered may be changed, and nothing else changes then.
func TestAnswersStandAlone(t *testing.T) {
	one, two := plainOne(), plainTwo()
	a, b := upgrade.Two(one), upgrade.Three(two)
	was, _ := upgrade.Down(b)
	for i := range a.Pods {
		a.Pods[i].Containers[0].Name = "other"
		a.Pods[i].File = "other"
	}
	for i := range was.Pods {
		was.Pods[i].Containers[0].Name = "other"
		was.Pods[i].File = "other"
	}
	if !same(b, threeOf(plainTwo()), false) {
		t.Error("a state of version 3 changed with what it was made of")
	}
	for i := range b.Pods {
		b.Pods[i].Pod.Containers[0].Name = "other"
		b.Pods[i].File = "other"
	}
	if !same(one, plainOne(), false) || !same(two, plainTwo(), false) {
		t.Error("what was handed in changed with what was answered")
	}
}

// P20.3: what may be is made what may be.
func TestPlainMayBe(t *testing.T) {
	if e := plainOne().Check(); e != api.OK {
		t.Fatal("the state of version 1: ", e)
	}
	if e := plainTwo().Check(); e != api.OK {
		t.Fatal("the state of version 2: ", e)
	}
	holdOne(t, "a state", plainOne())
	holdTwo(t, "a state", plainTwo())
	if a, b, c := upgrade.Two(plainOne()).Check(), upgrade.Three(plainTwo()).Check(), upgrade.Both(plainOne()).Check(); a != api.OK || b != api.OK || c != api.OK {
		t.Errorf("of what is made there is said %v, %v and %v", a, b, c)
	}
}
