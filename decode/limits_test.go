package decode_test

import (
	"fmt"
	"math"
	"strings"
	"testing"

	"bosun/api"
	"bosun/decode"
	"bosun/spec"
	"bosun/value"
)

// P15.1: whole numbers, at the limits of layer 14, and at those of an int64; 0 is as if nothing were there.
func TestNumbers(t *testing.T) {
	inside := []any{"containers", 1}
	for _, c := range []struct {
		path  []any
		key   string
		most  int64
		given int64 // the default; 0, if there is none
		set   func(p *spec.Pod, n int64)
	}{
		{nil, "grace", 3600, 30, func(p *spec.Pod, n int64) { p.Grace = n }},
		{inside, "cpu", 64000, 100, func(p *spec.Pod, n int64) { p.Containers[1].Cpu = n }},
		{inside, "memory", 1 << 20, 64, func(p *spec.Pod, n int64) { p.Containers[1].Memory = n }},
		{[]any{"containers", 1, "ports", 0}, "number", 65535, 0, func(p *spec.Pod, n int64) { p.Containers[1].Ports[0].Number = n }},
	} {
		for _, n := range []int64{
			math.MinInt64, math.MinInt32 - 1, math.MinInt32, -65536, -1, 0, 1, 2, 1000, c.most - 1, c.most, c.most + 1, c.most * 2,
			1<<31 - 1, 1 << 31, 1 << 32, 1<<32 + 1, 1<<32 + c.most, 1 << 62, math.MaxInt64 - 1, math.MaxInt64,
		} {
			v := changed(doc(fullText), c.path, with(c.key, value.Whole(n)))
			want, e := fullPod(), api.OK
			c.set(&want, n)
			switch {
			case n == 0 && c.given != 0:
				c.set(&want, c.given)
			case n < 1 || n > c.most:
				e = api.ErrRange
			}
			either(t, fmt.Sprint(c.key, " ", n), v, want, e)
		}
	}
}

// P15.1: numbers in a JSON, to both ends of an int64.
func TestNumbersOfJSON(t *testing.T) {
	for s, e := range map[string]api.Errno{"-9223372036854775808": api.ErrRange, "9223372036854775807": api.ErrRange, "-0": api.OK, "3600": api.OK, "3601": api.ErrRange} {
		p, got := answer(t, doc(`{"grace":`+s+`,"name":"web","containers":[{"name":"c","image":"nginx"}]}`))
		if got != e {
			t.Errorf("a grace of %s: %v and %v, not %v", s, p, got, e)
		}
	}
}

// P15.1: texts as long as may be, and longer by one byte.
func TestTexts(t *testing.T) {
	inside := []any{"containers", 0}
	label := strings.Repeat("a", 63)
	name := label + "." + label + "." + label + "." + strings.Repeat("a", 61)
	for _, c := range []struct {
		path []any
		key  string
		may  string
		e    api.Errno // that of one byte more
		set  func(p *spec.Pod, s string)
	}{
		{nil, "name", name, api.ErrName, func(p *spec.Pod, s string) { p.Name = s }},
		{nil, "namespace", label, api.ErrName, func(p *spec.Pod, s string) { p.Namespace = s }},
		{inside, "name", label, api.ErrName, func(p *spec.Pod, s string) { p.Containers[0].Name = s }},
		{inside, "image", strings.Repeat("a", 255), api.ErrForm, func(p *spec.Pod, s string) { p.Containers[0].Image = s }},
		{[]any{"containers", 0, "env", 1}, "name", strings.Repeat("A", 63), api.ErrName, func(p *spec.Pod, s string) { p.Containers[0].Env[1].Name = s }},
		{[]any{"containers", 0, "env", 1}, "value", strings.Repeat("é", 2048), api.ErrLong, func(p *spec.Pod, s string) { p.Containers[0].Env[1].Value = s }},
	} {
		want := fullPod()
		c.set(&want, c.may)
		hold(t, c.key, changed(doc(fullText), c.path, with(c.key, value.Of(c.may))), want)
		refused(t, c.key, changed(doc(fullText), c.path, with(c.key, value.Of(c.may+"a"))), c.e)
	}
	long := strings.Repeat("x", 4096)
	want := fullPod()
	want.Containers[0].Command[1] = long
	command := []any{"containers", 0, "command", 1}
	hold(t, "a command", changed(doc(fullText), command, func(x *value.Value) { x.Text = long }), want)
	refused(t, "a command", changed(doc(fullText), command, func(x *value.Value) { x.Text += long }), api.ErrLong)
	empty := fullPod()
	empty.Namespace = "default"
	hold(t, "an empty namespace", changed(doc(fullText), nil, with("namespace", value.Of(""))), empty)
}

// many are so many items.
func many[T any](n int, item func(i int) T) []T {
	l := make([]T, n)
	for i := range l {
		l[i] = item(i)
	}
	return l
}

// P15.1: lists of as many items as may be, and of more; what is wrong in the last one of too many is told first.
func TestLists(t *testing.T) {
	for _, c := range []struct {
		path []any
		item func(i int) value.Value
		set  func(p *spec.Pod, n int)
	}{
		{[]any{"containers", 0, "command"}, func(i int) value.Value { return value.Of(fmt.Sprint(i)) }, func(p *spec.Pod, n int) {
			p.Containers[0].Command = many(n, func(i int) string { return fmt.Sprint(i) })
		}},
		{[]any{"containers", 0, "ports"}, func(i int) value.Value { return doc(fmt.Sprintf(`{"number":%d}`, i+1)) }, func(p *spec.Pod, n int) {
			p.Containers[0].Ports = many(n, func(i int) spec.Port { return spec.Port{Number: int64(i) + 1} })
		}},
		{[]any{"containers", 0, "env"}, func(i int) value.Value { return doc(fmt.Sprintf(`{"name":"N%d"}`, i)) }, func(p *spec.Pod, n int) {
			p.Containers[0].Env = many(n, func(i int) spec.Env { return spec.Env{Name: fmt.Sprint("N", i)} })
		}},
		{[]any{"containers"}, func(i int) value.Value { return doc(fmt.Sprintf(`{"image":"i","name":"c%d"}`, i)) }, func(p *spec.Pod, n int) {
			p.Containers = many(n, func(i int) spec.Container {
				return spec.Container{Name: fmt.Sprint("c", i), Image: "i", Cpu: 100, Memory: 64}
			})
		}},
	} {
		for _, n := range []int{1, 2, 15, 16, 17, 18, 1000} {
			want, e := fullPod(), api.OK
			c.set(&want, n)
			if n > 16 {
				e = api.ErrFull
			}
			l := many(n, c.item)
			either(t, fmt.Sprint(c.path, " of ", n), changed(doc(fullText), c.path, func(x *value.Value) { *x = value.Row(l...) }), want, e)
			l[n-1] = value.Value{}
			refused(t, fmt.Sprint(c.path, " of ", n), changed(doc(fullText), c.path, func(x *value.Value) { *x = value.Row(l...) }), api.ErrType)
		}
	}
}

// R1: a document that is as large as a file may be, of containers that say nothing.
func TestLarge(t *testing.T) {
	nothing := many(api.MaxFile/3, func(int) value.Value { return value.Map() })
	v := value.Map(value.Pair{Key: "name", Value: value.Of("web")}, value.Pair{Key: "containers", Value: value.Row(nothing...)})
	refused(t, "many containers", v, api.ErrFull)
	nothing[len(nothing)-1] = doc(`{"x":null}`)
	refused(t, "many containers", value.Map(value.Pair{Key: "containers", Value: value.Row(nothing...)}), api.ErrField)
}

// R1: lists and keys that are in themselves.
func TestInItself(t *testing.T) {
	l := value.Value{Kind: value.List, List: make([]value.Value, 1)}
	l.List[0] = l
	k := value.Value{Kind: value.Keys, Keys: []value.Pair{{Key: "containers"}}}
	k.Keys[0].Value = k
	// Those can't be copied, nor told.
	for _, v := range []value.Value{l, k} {
		if p, e := decode.Pod(v); e != api.ErrDeep || !alike(p, spec.Pod{}) {
			t.Errorf("what is in itself is %v and %v", p, e)
		}
	}
}
