package diff_test

import (
	"fmt"
	"math"
	"reflect"
	"testing"

	"bosun/ckthree"
	"bosun/diff"
	"bosun/spec"
)

// rich is a pod with several items in each of its lists, no two alike.
func rich() spec.Pod {
	container := func(name string, n int64) spec.Container {
		return spec.Container{
			Name:    name,
			Image:   "docker.io/" + name + ":1",
			Command: []string{"serve", "-v", name},
			Ports:   []spec.Port{{Number: 80 + n}, {Number: 80 + n, Proto: spec.UDP}, {Number: 90 + n}},
			Cpu:     100 + n,
			Memory:  64 + n,
			Env:     []spec.Env{{Name: "HOME", Value: "/" + name}, {Name: "LANG", Value: "é"}, {Name: "LC", Value: "é"}},
		}
	}
	return spec.Pod{Name: "web", Namespace: "shop", Restart: spec.OnFailure, Grace: 30,
		Containers: []spec.Container{container("first", 1), container("second", 2), container("third", 3)}}
}

// poor is a pod that has nothing.
func poor() spec.Pod { return spec.Pod{} }

// mid is a pod whose containers have nothing.
func mid() spec.Pod { return spec.Pod{Name: "n", Containers: make([]spec.Container, 1)} }

// variant is a pod that was changed in one place, and what was done to it.
type variant struct {
	what string
	pod  spec.Pod
}

// variants are all pods that one change in one place makes of a pod.
func variants(of spec.Pod) []variant {
	var l []variant
	count := 0
	each(reflect.ValueOf(&of).Elem(), "pod", func(_ reflect.Value, _ string) { count++ })
	for n := range count {
		for k := 0; ; k++ {
			p, i, what, ok := copiedPod(of), 0, "", false
			each(reflect.ValueOf(&p).Elem(), "pod", func(v reflect.Value, name string) {
				if i == n {
					what = fmt.Sprint(name, ", change ", k)
					ok = change(v, k)
				}
				i++
			})
			if !ok {
				break
			}
			l = append(l, variant{what, p})
		}
	}
	return l
}

// each visits all parts of a pod: fields, lists, and what is in these. (Those of a list behind it, for it may be changed.)
func each(v reflect.Value, name string, visit func(v reflect.Value, name string)) {
	switch v.Kind() {
	case reflect.Struct:
		for i := range v.NumField() {
			each(v.Field(i), name+"."+v.Type().Field(i).Name, visit)
		}
	case reflect.Slice:
		for i := range v.Len() {
			each(v.Index(i), fmt.Sprint(name, "[", i, "]"), visit)
		}
		visit(v, name)
	default:
		visit(v, name)
	}
}

// change does the k-th change to a part, and tells whether there is one; none leaves the part as it was.
func change(v reflect.Value, k int) bool {
	switch v.Kind() {
	case reflect.String:
		return changeText(v, k)
	case reflect.Bool:
		v.SetBool(!v.Bool())
		return k == 0
	case reflect.Slice:
		return changeList(v, k)
	}
	by := []int64{1, -1, 256, 1 << 16, 1 << 32, math.MinInt64}
	if k < len(by) {
		v.SetInt(v.Int() + by[k])
	}
	return k < len(by)
}

// changeText does that to a text.
func changeText(v reflect.Value, k int) bool {
	s := v.String()
	to := []string{s + "a", s + "\x00", s + " ", "\xff" + s}
	if s != "" {
		to = append(to, "", s[1:], s[:len(s)-1]+string([]byte{s[len(s)-1] ^ 1}), string([]byte{s[0] ^ 0x20})+s[1:])
	}
	if k < len(to) {
		v.SetString(to[k])
	}
	return k < len(to)
}

// changeList does that to a list.
func changeList(v reflect.Value, k int) bool {
	n := v.Len()
	to := []reflect.Value{reflect.Append(v.Slice3(0, n, n), reflect.Zero(v.Type().Elem()))}
	if n > 0 {
		to = append(to, reflect.Zero(v.Type()), reflect.Append(v.Slice3(0, n, n), v.Index(n-1)), reflect.AppendSlice(v.Slice3(0, n, n), v))
	}
	if n > 1 {
		to = append(to, v.Slice(0, n-1), v.Slice(1, n), reflect.AppendSlice(v.Slice3(1, n, n), v.Slice(0, 1)))
	}
	if k < len(to) {
		v.Set(to[k])
		return true
	}
	if i := k - len(to); i+1 < n {
		swap := reflect.Swapper(v.Interface())
		swap(i, i+1)
		return true
	}
	return false
}

// P23.1, P23.2: pods that aren't alike in one part alone, in what is in a list, in its order, or in how much: an Update with
// the second one's Name; it stands alone, and between others.
func TestChangedPods(t *testing.T) {
	seen := 0
	for _, p := range []spec.Pod{rich(), mid(), poor()} {
		for _, v := range variants(p) {
			seen++
			a, b := ckthree.State{Pods: []ckthree.Pod{{File: "f", Pod: p}}}, ckthree.State{Pods: []ckthree.Pod{{File: "f", Pod: v.pod}}}
			holdBoth(t, v.what, a, b, []diff.Event{{Kind: diff.Update, File: "f", Name: v.pod.Name}})
			c, d := state("a", "x", "f", "", "g", "y", "h", "z"), state("b", "x", "f", "", "g", "y", "h", "w")
			c.Pods[1].Pod, d.Pods[1].Pod = p, v.pod
			holdBoth(t, v.what+", between others", c, d, []diff.Event{{Kind: diff.Remove, File: "a", Name: "x"}, {Kind: diff.Add, File: "b", Name: "x"},
				{Kind: diff.Update, File: "f", Name: v.pod.Name}, {Kind: diff.Update, File: "h", Name: "w"}})
		}
	}
	if seen < 400 {
		t.Errorf("only %d changes", seen)
	}
}

// P23.1: an Update's Name is the second pod's, where the Names differ, and where something else does.
func TestUpdateName(t *testing.T) {
	tells(t, state("a", "old"), state("a", "new"), "update a new")
	tells(t, state("a", "new"), state("a", "old"), "update a old")
	tells(t, state("a", "x"), state("a", ""), "update a ")
	tells(t, state("a", ""), state("a", "x"), "update a x")
	a, b := state("a", "x", "b", "y"), state("a", "y", "b", "x")
	tells(t, a, b, "update a y", "update b x")
	b.Pods[0].Pod.Name = "x"
	b.Pods[0].Pod.Grace = 31
	tells(t, a, b, "update a x", "update b x")
}

// R4: pods that are alike but for lists that are nil in place of empty.
func TestNilLists(t *testing.T) {
	none := spec.Pod{Name: "x", Containers: []spec.Container{{Name: "c"}}}
	for bits := range 16 {
		p := spec.Pod{Name: "x", Containers: []spec.Container{{Name: "c"}}}
		c := &p.Containers[0]
		if bits&1 != 0 {
			c.Command = []string{}
		}
		if bits&2 != 0 {
			c.Ports = []spec.Port{}
		}
		if bits&4 != 0 {
			c.Env = []spec.Env{}
		}
		if bits&8 != 0 {
			c.Command, c.Ports, c.Env = make([]string, 0, 4), make([]spec.Port, 0, 4), make([]spec.Env, 0, 4)
		}
		a, b := ckthree.State{Pods: []ckthree.Pod{{File: "f", Pod: none}}}, ckthree.State{Pods: []ckthree.Pod{{File: "f", Pod: p}}}
		holdBoth(t, fmt.Sprint("nil lists ", bits), a, b, nil)
	}
	a := ckthree.State{Pods: []ckthree.Pod{{File: "f"}}}
	b := ckthree.State{Pods: []ckthree.Pod{{File: "f", Pod: spec.Pod{Containers: []spec.Container{}}}}}
	holdBoth(t, "no containers", a, b, nil)
}
