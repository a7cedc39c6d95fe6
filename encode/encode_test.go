package encode_test

import (
	"fmt"
	"math"
	"reflect"
	"slices"
	"strings"
	"testing"

	"bosun/api"
	"bosun/encode"
	"bosun/jprint"
	"bosun/json"
	"bosun/spec"
	"bosun/value"
)

// pair is a key, and its value.
func pair(key string, v value.Value) value.Pair { return value.Pair{Key: key, Value: v} }

// small is a container with no more than it needs.
func small(name string) spec.Container {
	return spec.Container{Name: name, Image: "nginx", Cpu: 100, Memory: 64}
}

// full is a container with several items in each list.
func full(name string) spec.Container {
	return spec.Container{
		Name: name, Image: "docker.io/nginx:1", Command: []string{"serve", "-v", "serve"},
		Ports: []spec.Port{{Number: 80, Proto: spec.UDP}, {Number: 53, Proto: spec.TCP}, {Number: 80, Proto: spec.TCP}},
		Cpu:   250, Memory: 128, Env: []spec.Env{{Name: "HOME", Value: "/"}, {Name: "A", Value: ""}, {Name: "LANG", Value: "é\n"}},
	}
}

// podOf is a pod that may be, if the containers may.
func podOf(l ...spec.Container) spec.Pod {
	return spec.Pod{Name: "web.example", Namespace: "shop", Restart: spec.Never, Grace: 10, Host: true, Containers: l}
}

// what those containers' documents are.
const (
	smallText = `{"name":"c","image":"nginx","command":[],"ports":[],"cpu":100,"memory":64,"env":[]}`
	fullText  = `{"name":"d","image":"docker.io/nginx:1","command":["serve","-v","serve"],` +
		`"ports":[{"number":80,"proto":"udp"},{"number":53,"proto":"tcp"},{"number":80,"proto":"tcp"}],"cpu":250,"memory":128,` +
		`"env":[{"name":"HOME","value":"/"},{"name":"A","value":""},{"name":"LANG","value":"é\n"}]}`
)

// clone is a copy of a list, with what stands behind its end.
func clone[T any](l []T) []T { return slices.Clone(l[:cap(l)])[:len(l)] }

// copyOf is a copy of a pod, in memory of its own but for its texts, with what stands behind the ends of its lists.
func copyOf(p spec.Pod) spec.Pod {
	p.Containers = clone(p.Containers)
	for i := range p.Containers {
		c := &p.Containers[i]
		c.Command, c.Ports, c.Env = clone(c.Command), clone(c.Ports), clone(c.Env)
	}
	return p
}

// behind are a pod's containers, and what stands behind them and behind the ends of their lists.
func behind(p spec.Pod) []any {
	l := []any{p.Containers[:cap(p.Containers)]}
	for _, c := range p.Containers {
		l = append(l, c.Command[:cap(c.Command)], c.Ports[:cap(c.Ports)], c.Env[:cap(c.Env)])
	}
	return l
}

// bare is a value whose empty lists are nil, so that values may be held against each other by reflect.
func bare(v value.Value) value.Value {
	l, keys := v.List, v.Keys
	v.List, v.Keys = nil, nil
	for _, x := range l {
		v.List = append(v.List, bare(x))
	}
	for _, p := range keys {
		v.Keys = append(v.Keys, pair(p.Key, bare(p.Value)))
	}
	return v
}

// short is how a thing is told, cut off if it is long.
func short(x any) string {
	s := fmt.Sprintf("%+v", x)
	if len(s) > 500 {
		s = s[:500] + " .."
	}
	return s
}

// hold holds that a pod has that document, with nothing beside it, and stays as it is.
func hold(t *testing.T, what string, p spec.Pod, want value.Value) {
	t.Helper()
	before := copyOf(p)
	v := encode.Pod(p)
	if !v.Same(want) || !reflect.DeepEqual(bare(v), bare(want)) {
		t.Errorf("%s: Pod(%s) is %s, not %s", what, short(p), short(v), short(want))
	}
	if !p.Same(before) || !reflect.DeepEqual(behind(p), behind(before)) {
		t.Errorf("%s: %s became %s", what, short(before), short(p))
	}
}

// holdText holds that a pod's document has that JSON.
func holdText(t *testing.T, what string, p spec.Pod, want string) {
	t.Helper()
	if s, e := jprint.Print(encode.Pod(p)); e != api.OK || s != want {
		t.Errorf("%s: the JSON of Pod(%s) is %s and %v, not %s", what, short(p), s, e, want)
	}
	v, m := json.Parse(want)
	if m != (json.Mistake{}) {
		t.Fatalf("%s is no JSON: %v", want, m)
	}
	hold(t, what, p, v)
}

// P16.1: the chapter's example.
func TestExample(t *testing.T) {
	c := small("c")
	c.Ports = []spec.Port{{Number: 80, Proto: spec.UDP}}
	holdText(t, "the example", podOf(c), `{"name":"web.example","namespace":"shop","restart":"never","grace":10,"host":true,"containers":[`+
		`{"name":"c","image":"nginx","command":[],"ports":[{"number":80,"proto":"udp"}],"cpu":100,"memory":64,"env":[]}]}`)
}

// P16.1: every key in its order, of pods with empty lists, and with lists of several.
func TestKeys(t *testing.T) {
	ahead := `{"name":"web.example","namespace":"shop","restart":"never","grace":10,"host":true,"containers":[`
	holdText(t, "empty lists", podOf(small("c")), ahead+smallText+`]}`)
	holdText(t, "several items", podOf(full("d")), ahead+fullText+`]}`)
	holdText(t, "several containers", podOf(full("d"), small("c"), full("d")), ahead+fullText+`,`+smallText+`,`+fullText+`]}`)
	holdText(t, "no containers", podOf(), ahead+`]}`)
	holdText(t, "the zero pod", spec.Pod{}, `{"name":"","namespace":"","restart":"always","grace":0,"host":false,"containers":[]}`)
	holdText(t, "zero items", podOf(spec.Container{Command: []string{""}, Ports: make([]spec.Port, 1), Env: make([]spec.Env, 1)}),
		ahead+`{"name":"","image":"","command":[""],"ports":[{"number":0,"proto":"tcp"}],"cpu":0,"memory":0,"env":[{"name":"","value":""}]}]}`)
}

// P16.1, R4: lists that are empty, and nil, and with room behind their ends.
func TestEmptyLists(t *testing.T) {
	want := encode.Pod(podOf(small("c")))
	none := encode.Pod(podOf())
	for room := range 3 {
		c := small("c")
		c.Command, c.Ports, c.Env = make([]string, 0, room), make([]spec.Port, 0, room), make([]spec.Env, 0, room)
		hold(t, "empty lists", podOf(c), want)
		hold(t, "no containers", podOf(make([]spec.Container, 0, room)...), none)
	}
	c := full("d")
	c.Command, c.Ports, c.Env = slices.Grow(c.Command, 4), slices.Grow(c.Ports, 4), slices.Grow(c.Env, 4)
	hold(t, "room behind", podOf(slices.Grow([]spec.Container{c}, 4)...), encode.Pod(podOf(full("d"))))
	for _, l := range []value.Value{mustGet(t, none, "containers"), mustGet(t, mustGet(t, want, "containers").List[0], "command")} {
		if l.Kind != value.List || len(l.List) != 0 {
			t.Errorf("an empty list is %v", l)
		}
	}
}

// mustGet is the value of a key that is there.
func mustGet(t *testing.T, v value.Value, key string) value.Value {
	t.Helper()
	x, ok := v.Get(key)
	if !ok {
		t.Fatalf("there is no %s in %s", key, short(v))
	}
	return x
}

// P16.1: each word of restart and of proto, and that of numbers that have none.
func TestWords(t *testing.T) {
	for r, s := range map[spec.Restart]string{0: "always", 1: "on-failure", 2: "never", 3: "none", -1: "none", 256: "none", math.MaxInt: "none", math.MinInt: "none"} {
		p := podOf(small("c"))
		p.Restart = r
		if v := mustGet(t, encode.Pod(p), "restart"); !v.Same(value.Of(s)) {
			t.Errorf("the Restart %d is %v, not %s", int(r), v, s)
		}
	}
	for r, s := range map[spec.Proto]string{0: "tcp", 1: "udp", 2: "none", -1: "none", 256: "none", math.MaxInt: "none", math.MinInt: "none"} {
		c := small("c")
		c.Ports = []spec.Port{{Number: 1, Proto: r}}
		p := encode.Pod(podOf(c))
		if v := mustGet(t, mustGet(t, mustGet(t, p, "containers").List[0], "ports").List[0], "proto"); !v.Same(value.Of(s)) {
			t.Errorf("the Proto %d is %v, not %s", int(r), v, s)
		}
	}
}

// P16.1: each part has its key, numbers of every size, and texts of all kinds, those that may not be, too.
func TestParts(t *testing.T) {
	numbers := []int64{0, 1, -1, 80, 65535, 65536, 1<<31 - 1, -1 << 31, 1 << 32, 1<<53 + 1, math.MaxInt64, math.MinInt64}
	texts := []string{"", "a", "none", "null", "\x00\n\"", "é", "\xff", strings.Repeat("x", 5000)}
	for i, n := range numbers {
		for j, s := range texts {
			// Each number and each text is another one, so that none stands where another should.
			number := func(k int) int64 { return numbers[(i+k)%len(numbers)] }
			text := func(k int) string { return texts[(j+k)%len(texts)] + fmt.Sprint(k) }
			p := spec.Pod{Name: s, Namespace: text(1), Restart: spec.OnFailure, Grace: n, Host: i%2 == 0, Containers: []spec.Container{{
				Name: text(2), Image: text(3), Command: []string{text(4), s, text(5)}, Ports: []spec.Port{{Number: number(1), Proto: spec.UDP}, {Number: number(2), Proto: spec.TCP}},
				Cpu: number(3), Memory: number(4), Env: []spec.Env{{Name: text(6), Value: text(7)}, {Name: text(8), Value: text(9)}},
			}}}
			hold(t, "a pod", p, value.Map(
				pair("name", value.Of(s)), pair("namespace", value.Of(text(1))), pair("restart", value.Of("on-failure")), pair("grace", value.Whole(n)), pair("host", value.Yes(i%2 == 0)),
				pair("containers", value.Row(value.Map(
					pair("name", value.Of(text(2))), pair("image", value.Of(text(3))), pair("command", value.Row(value.Of(text(4)), value.Of(s), value.Of(text(5)))),
					pair("ports", value.Row(
						value.Map(pair("number", value.Whole(number(1))), pair("proto", value.Of("udp"))),
						value.Map(pair("number", value.Whole(number(2))), pair("proto", value.Of("tcp"))),
					)),
					pair("cpu", value.Whole(number(3))), pair("memory", value.Whole(number(4))),
					pair("env", value.Row(
						value.Map(pair("name", value.Of(text(6))), pair("value", value.Of(text(7)))),
						value.Map(pair("name", value.Of(text(8))), pair("value", value.Of(text(9)))),
					)),
				))),
			))
		}
	}
}

// P16.1: lists of more items than may be.
func TestLongLists(t *testing.T) {
	for _, n := range []int{16, 17, 1000} {
		var c spec.Container
		for i := range n {
			c.Command = append(c.Command, fmt.Sprint(i))
			c.Ports = append(c.Ports, spec.Port{Number: int64(i)})
			c.Env = append(c.Env, spec.Env{Name: fmt.Sprint(i)})
		}
		l := slices.Repeat([]spec.Container{c}, n)
		containers := mustGet(t, encode.Pod(podOf(l...)), "containers").List
		if len(containers) != n {
			t.Fatalf("of %d containers there are %d", n, len(containers))
		}
		last := containers[n-1]
		for i := range n {
			s := mustGet(t, last, "command").List[i]
			p := mustGet(t, mustGet(t, last, "ports").List[i], "number")
			x := mustGet(t, mustGet(t, last, "env").List[i], "name")
			if !s.Same(value.Of(fmt.Sprint(i))) || !p.Same(value.Whole(int64(i))) || !x.Same(s) {
				t.Errorf("item %d is %v, %v and %v", i, s, p, x)
			}
		}
	}
}

// R5: a pod always has one document, whatever is done to another answer.
func TestAnswersAreNew(t *testing.T) {
	p := podOf(full("d"), small("c"))
	want := encode.Pod(p)
	v := encode.Pod(p)
	var spoil func(v value.Value)
	spoil = func(v value.Value) {
		for i, x := range v.List {
			spoil(x)
			v.List[i] = value.Of("other")
		}
		for i, x := range v.Keys {
			spoil(x.Value)
			v.Keys[i] = pair("other", value.Value{})
		}
		_, _ = append(v.List, value.Of("more")), append(v.Keys, pair("more", value.Value{}))
	}
	spoil(v)
	hold(t, "behind another answer", p, want)
	if !want.Same(encode.Pod(podOf(full("d"), small("c")))) {
		t.Error("with one answer another one changed")
	}
}
