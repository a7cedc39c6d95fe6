package decode_test

import (
	"fmt"
	"math/rand"
	"reflect"
	"slices"
	"testing"

	"bosun/api"
	"bosun/decode"
	"bosun/json"
	"bosun/spec"
	"bosun/value"
)

// doc is the value of a JSON.
func doc(s string) value.Value {
	v, m := json.Parse(s)
	if m != (json.Mistake{}) {
		panic(s + " is no JSON: " + m.Err.Word())
	}
	return v
}

// the document of a pod with all keys, in each of its lists two items; and of one with no more than it needs.
const (
	fullText = `{"name":"web.example","namespace":"shop","restart":"on-failure","grace":10,"host":true,"containers":[` +
		`{"name":"first","image":"docker.io/nginx:1","command":["serve","-v"],"ports":[{"number":80,"proto":"udp"},{"number":53,"proto":"udp"}],"cpu":250,"memory":128,"env":[{"name":"HOME","value":"/"},{"name":"LANG","value":"é"}]},` +
		`{"name":"second","image":"redis","command":["run","\n"],"ports":[{"number":6379,"proto":"tcp"},{"number":6379,"proto":"udp"}],"cpu":1,"memory":2,"env":[{"name":"A","value":"1"},{"name":"B","value":"2"}]}]}`
	smallText = `{"name":"web","containers":[{"name":"c","image":"nginx"}]}`
)

// fullPod is the pod of the one, smallPod that of the other.
func fullPod() spec.Pod {
	return spec.Pod{
		Name: "web.example", Namespace: "shop", Restart: spec.OnFailure, Grace: 10, Host: true,
		Containers: []spec.Container{{
			Name: "first", Image: "docker.io/nginx:1", Command: []string{"serve", "-v"},
			Ports: []spec.Port{{Number: 80, Proto: spec.UDP}, {Number: 53, Proto: spec.UDP}},
			Cpu:   250, Memory: 128, Env: []spec.Env{{Name: "HOME", Value: "/"}, {Name: "LANG", Value: "é"}},
		}, {
			Name: "second", Image: "redis", Command: []string{"run", "\n"},
			Ports: []spec.Port{{Number: 6379, Proto: spec.TCP}, {Number: 6379, Proto: spec.UDP}},
			Cpu:   1, Memory: 2, Env: []spec.Env{{Name: "A", Value: "1"}, {Name: "B", Value: "2"}},
		}},
	}
}

func smallPod() spec.Pod {
	return spec.Pod{
		Name: "web", Namespace: "default", Grace: 30,
		Containers: []spec.Container{{Name: "c", Image: "nginx", Cpu: 100, Memory: 64}},
	}
}

// copyOf is a copy of a value in memory of its own, with what stands behind the ends of its lists.
func copyOf(v value.Value) value.Value {
	v.List = slices.Clone(v.List[:cap(v.List)])[:len(v.List)]
	for i, x := range v.List {
		v.List[i] = copyOf(x)
	}
	v.Keys = slices.Clone(v.Keys[:cap(v.Keys)])[:len(v.Keys)]
	for i, p := range v.Keys {
		v.Keys[i].Value = copyOf(p.Value)
	}
	return v
}

// at is the value behind keys and numbers of items, in a value; nil, if there is none.
func at(v *value.Value, path ...any) *value.Value {
	for _, step := range path {
		if n, ok := step.(int); ok {
			if n >= len(v.List) {
				return nil
			}
			v = &v.List[n]
			continue
		}
		i := slices.IndexFunc(v.Keys, func(p value.Pair) bool { return p.Key == step })
		if i < 0 {
			return nil
		}
		v = &v.Keys[i].Value
	}
	return v
}

// changed is a document in which one value was changed.
func changed(v value.Value, path []any, do func(x *value.Value)) value.Value {
	v = copyOf(v)
	do(at(&v, path...))
	return v
}

// without does away with a key.
func without(key string) func(x *value.Value) {
	return func(x *value.Value) {
		x.Keys = slices.DeleteFunc(x.Keys, func(p value.Pair) bool { return p.Key == key })
	}
}

// with puts a key behind the others, or gives it another value.
func with(key string, y value.Value) func(x *value.Value) {
	return func(x *value.Value) {
		for i, p := range x.Keys {
			if p.Key == key {
				x.Keys[i].Value = y
				return
			}
		}
		x.Keys = append(x.Keys, value.Pair{Key: key, Value: y})
	}
}

// alike says whether pods are alike in all their parts, as reflect sees them, but for nil lists and empty ones.
func alike(p, q spec.Pod) bool { return reflect.DeepEqual(bare(p), bare(q)) }

func bare(p spec.Pod) spec.Pod {
	p.Containers = orNil(slices.Clone(p.Containers))
	for i := range p.Containers {
		c := &p.Containers[i]
		c.Command, c.Ports, c.Env = orNil(c.Command), orNil(c.Ports), orNil(c.Env)
	}
	return p
}

func orNil[T any](l []T) []T {
	if len(l) == 0 {
		return nil
	}
	return l
}

// short is how a thing is told, cut off if it is long.
func short(x any) string {
	s := fmt.Sprintf("%+v", x)
	if len(s) > 500 {
		s = s[:500] + " .."
	}
	return s
}

// answer is what Pod answers, of a document that stays as it is.
func answer(t *testing.T, v value.Value) (spec.Pod, api.Errno) {
	t.Helper()
	before := copyOf(v)
	p, e := decode.Pod(v)
	if !reflect.DeepEqual(copyOf(v), before) {
		t.Errorf("%s became %s", short(before), short(v))
	}
	return p, e
}

// hold holds that a document is that of a pod, one that may be, and has its defaults.
func hold(t *testing.T, what string, v value.Value, want spec.Pod) {
	t.Helper()
	p, e := answer(t, v)
	if e != api.OK || !alike(p, want) {
		t.Errorf("%s: Pod(%s) is %s and %v, not %s", what, short(v), short(p), e, short(want))
	}
	if p.Check() != api.OK || !alike(p, p.Default()) {
		t.Errorf("%s: Pod(%s) is %s, which has the Check %v", what, short(v), short(p), p.Check())
	}
}

// refused holds that a document has that error, and nothing else is answered.
func refused(t *testing.T, what string, v value.Value, want api.Errno) {
	t.Helper()
	p, e := answer(t, v)
	if e != want || !alike(p, spec.Pod{}) {
		t.Errorf("%s: Pod(%s) is %s and %v, not %v", what, short(v), short(p), e, want)
	}
}

// either holds that a document has that error, or, if there is none, that it is that of a pod.
func either(t *testing.T, what string, v value.Value, want spec.Pod, e api.Errno) {
	t.Helper()
	if e != api.OK {
		refused(t, what, v, e)
		return
	}
	hold(t, what, v, want)
}

// P15.1: the chapter's example.
func TestExample(t *testing.T) {
	hold(t, "the example", doc(`{"name":"web","containers":[{"name":"c","image":"nginx"}]}`), spec.Pod{
		Name: "web", Namespace: "default", Restart: spec.Always, Grace: 30,
		Containers: []spec.Container{{Name: "c", Image: "nginx", Cpu: 100, Memory: 64}},
	})
}

// P15.1: all keys.
func TestAllKeys(t *testing.T) {
	hold(t, "all keys", doc(fullText), fullPod())
	hold(t, "few keys", doc(smallText), smallPod())
}

// field is a key, and where it stands in the full document.
type field struct {
	path  []any
	key   string
	kind  value.Kind
	clear func(p *spec.Pod) // makes the full pod what it is without the key, with defaults,
	err   api.Errno         // or there is this error
}

// of are the fields that stand at one place.
func of(path []any, l ...field) []field {
	for i := range l {
		l[i].path = path
	}
	return l
}

// containerFields are those of a container.
func containerFields(i int) []field {
	in := func(do func(c *spec.Container)) func(p *spec.Pod) { return func(p *spec.Pod) { do(&p.Containers[i]) } }
	return of([]any{"containers", i},
		field{key: "name", kind: value.Text, err: api.ErrName},
		field{key: "image", kind: value.Text, err: api.ErrForm},
		field{key: "command", kind: value.List, clear: in(func(c *spec.Container) { c.Command = nil })},
		field{key: "ports", kind: value.List, clear: in(func(c *spec.Container) { c.Ports = nil })},
		field{key: "cpu", kind: value.Int, clear: in(func(c *spec.Container) { c.Cpu = 100 })},
		field{key: "memory", kind: value.Int, clear: in(func(c *spec.Container) { c.Memory = 64 })},
		field{key: "env", kind: value.List, clear: in(func(c *spec.Container) { c.Env = nil })},
	)
}

// fields are all of them, of the items at the beginnings and the ends of lists.
func fields() []field {
	l := of(nil,
		field{key: "name", kind: value.Text, err: api.ErrName},
		field{key: "namespace", kind: value.Text, clear: func(p *spec.Pod) { p.Namespace = "default" }},
		field{key: "restart", kind: value.Text, clear: func(p *spec.Pod) { p.Restart = spec.Always }},
		field{key: "grace", kind: value.Int, clear: func(p *spec.Pod) { p.Grace = 30 }},
		field{key: "host", kind: value.Flag, clear: func(p *spec.Pod) { p.Host = false }},
		field{key: "containers", kind: value.List, err: api.ErrNone},
	)
	l = append(append(l, containerFields(0)...), containerFields(1)...)
	for i := range 2 {
		l = append(l, of([]any{"containers", 0, "ports", i},
			field{key: "number", kind: value.Int, err: api.ErrRange},
			field{key: "proto", kind: value.Text, clear: func(p *spec.Pod) { p.Containers[0].Ports[i].Proto = spec.TCP }},
		)...)
		l = append(l, of([]any{"containers", 1, "env", i},
			field{key: "name", kind: value.Text, err: api.ErrName},
			field{key: "value", kind: value.Text, clear: func(p *spec.Pod) { p.Containers[1].Env[i].Value = "" }},
		)...)
	}
	return l
}

// nulls are values of the Kind Null, with what plays no part in it.
func nulls() []value.Value {
	return []value.Value{
		{},
		{Text: "web", Int: 1, Flag: true},
		{List: []value.Value{value.Of("x")}, Keys: []value.Pair{{Key: "x"}}},
	}
}

// P15.1, P15.2: each key left out, and each with null.
func TestLeftOut(t *testing.T) {
	for _, f := range fields() {
		want := fullPod()
		if f.err == api.OK {
			f.clear(&want)
		}
		either(t, "without "+f.key, changed(doc(fullText), f.path, without(f.key)), want, f.err)
		for _, null := range nulls() {
			either(t, "with null for "+f.key, changed(doc(fullText), f.path, with(f.key, null)), want, f.err)
		}
	}
}

// P15.1: each key alone, beside those that a pod needs.
func TestEachAlone(t *testing.T) {
	type change = func(p *spec.Pod)
	in := func(do func(c *spec.Container)) change { return func(p *spec.Pod) { do(&p.Containers[0]) } }
	inside := []any{"containers", 0}
	for _, c := range []struct {
		path   []any
		key, s string
		do     change
	}{
		{nil, "name", `"a.b"`, func(p *spec.Pod) { p.Name = "a.b" }},
		{nil, "namespace", `"shop"`, func(p *spec.Pod) { p.Namespace = "shop" }},
		{nil, "restart", `"always"`, func(p *spec.Pod) {}},
		{nil, "restart", `"on-failure"`, func(p *spec.Pod) { p.Restart = spec.OnFailure }},
		{nil, "restart", `"never"`, func(p *spec.Pod) { p.Restart = spec.Never }},
		{nil, "grace", `7`, func(p *spec.Pod) { p.Grace = 7 }},
		{nil, "host", `true`, func(p *spec.Pod) { p.Host = true }},
		{nil, "host", `false`, func(p *spec.Pod) {}},
		{nil, "containers", `[{"name":"d","image":"i"}]`, in(func(c *spec.Container) { c.Name, c.Image = "d", "i" })},
		{inside, "name", `"d"`, in(func(c *spec.Container) { c.Name = "d" })},
		{inside, "image", `"i"`, in(func(c *spec.Container) { c.Image = "i" })},
		{inside, "command", `["","a",""]`, in(func(c *spec.Container) { c.Command = []string{"", "a", ""} })},
		{inside, "command", `[]`, in(func(c *spec.Container) {})},
		{inside, "ports", `[{"number":1}]`, in(func(c *spec.Container) { c.Ports = []spec.Port{{Number: 1}} })},
		{inside, "ports", `[{"number":1,"proto":"tcp"}]`, in(func(c *spec.Container) { c.Ports = []spec.Port{{Number: 1}} })},
		{inside, "ports", `[{"number":1,"proto":"udp"}]`, in(func(c *spec.Container) { c.Ports = []spec.Port{{Number: 1, Proto: spec.UDP}} })},
		{inside, "ports", `[]`, in(func(c *spec.Container) {})},
		{inside, "cpu", `7`, in(func(c *spec.Container) { c.Cpu = 7 })},
		{inside, "memory", `7`, in(func(c *spec.Container) { c.Memory = 7 })},
		{inside, "env", `[{"name":"A"}]`, in(func(c *spec.Container) { c.Env = []spec.Env{{Name: "A"}} })},
		{inside, "env", `[{"name":"A","value":"x"}]`, in(func(c *spec.Container) { c.Env = []spec.Env{{Name: "A", Value: "x"}} })},
		{inside, "env", `[]`, in(func(c *spec.Container) {})},
	} {
		want := smallPod()
		c.do(&want)
		hold(t, c.key, changed(doc(smallText), c.path, with(c.key, doc(c.s))), want)
	}
}

// P15.1: each key with nothing beside it, so that what a pod needs isn't there.
func TestNothingBeside(t *testing.T) {
	for s, e := range map[string]api.Errno{
		`{}`:                       api.ErrName,
		`{"name":"web"}`:           api.ErrNone,
		`{"namespace":"a"}`:        api.ErrName,
		`{"restart":"never"}`:      api.ErrName,
		`{"grace":1}`:              api.ErrName,
		`{"host":true}`:            api.ErrName,
		`{"containers":[{}]}`:      api.ErrName,
		`{"name":null}`:            api.ErrName,
		`{"containers":null}`:      api.ErrName,
		`{"containers":[{"x":1}]}`: api.ErrField,
	} {
		refused(t, s, doc(s), e)
	}
	for s, e := range map[string]api.Errno{
		`{}`:                      api.ErrName,
		`{"name":"c"}`:            api.ErrForm,
		`{"image":"i"}`:           api.ErrName,
		`{"command":["x"]}`:       api.ErrName,
		`{"ports":[{}]}`:          api.ErrName,
		`{"cpu":1}`:               api.ErrName,
		`{"memory":1}`:            api.ErrName,
		`{"env":[{}]}`:            api.ErrName,
		`{"name":"c","image":""}`: api.ErrForm,
	} {
		refused(t, s, changed(doc(smallText), []any{"containers", 0}, func(x *value.Value) { *x = doc(s) }), e)
	}
	for key, l := range map[string]map[string]api.Errno{
		"ports": {`{}`: api.ErrRange, `{"proto":"udp"}`: api.ErrRange, `{"number":null,"proto":null}`: api.ErrRange, `{"number":0}`: api.ErrRange},
		"env":   {`{}`: api.ErrName, `{"value":"x"}`: api.ErrName, `{"name":null,"value":null}`: api.ErrName, `{"name":""}`: api.ErrName},
	} {
		for s, e := range l {
			refused(t, s, changed(doc(smallText), []any{"containers", 0}, with(key, value.Row(doc(s)))), e)
		}
	}
}

// orders goes over all orders of keys.
func orders(l []value.Pair, behind int, look func()) {
	if behind == len(l) {
		look()
		return
	}
	for i := behind; i < len(l); i++ {
		l[behind], l[i] = l[i], l[behind]
		orders(l, behind+1, look)
		l[behind], l[i] = l[i], l[behind]
	}
}

// P15.2: keys in every order, of the pod, of a container, of a port and of a variable.
func TestOrders(t *testing.T) {
	for _, path := range [][]any{nil, {"containers", 0}, {"containers", 1, "ports", 1}, {"containers", 0, "env", 0}} {
		v := copyOf(doc(fullText))
		orders(at(&v, path...).Keys, 0, func() { hold(t, "an order", v, fullPod()) })
	}
}

// P15.2: keys in every order, with a null for each key that isn't needed, or for all of them but one.
func TestOrdersOfNulls(t *testing.T) {
	needed := map[string]bool{"name": true, "image": true, "containers": true}
	v := doc(smallText)
	for _, f := range append(fields()[:6], containerFields(0)...) {
		if !needed[f.key] {
			v = changed(v, f.path, with(f.key, value.Value{}))
		}
	}
	for _, path := range [][]any{nil, {"containers", 0}} {
		x := copyOf(v)
		orders(at(&x, path...).Keys, 0, func() { hold(t, "an order", x, smallPod()) })
	}
	hold(t, "nulls in items", doc(`{"containers":[{"ports":[{"proto":null,"number":1},{"number":2,"proto":null}],"env":[{"value":null,"name":"A"},{"name":"B","value":null}],"name":"c","image":"i"}],"name":"web"}`), spec.Pod{
		Name: "web", Namespace: "default", Grace: 30, Containers: []spec.Container{{
			Name: "c", Image: "i", Cpu: 100, Memory: 64, Ports: []spec.Port{{Number: 1}, {Number: 2}}, Env: []spec.Env{{Name: "A"}, {Name: "B"}},
		}},
	})
}

// shuffle puts all keys of a value, and of those in it, in another order, each list staying as it is.
func shuffle(r *rand.Rand, v value.Value) {
	r.Shuffle(len(v.Keys), func(i, j int) { v.Keys[i], v.Keys[j] = v.Keys[j], v.Keys[i] })
	for _, p := range v.Keys {
		shuffle(r, p.Value)
	}
	for _, x := range v.List {
		shuffle(r, x)
	}
}

// P15.2: all keys in other orders at once.
func TestManyOrders(t *testing.T) {
	r := rand.New(rand.NewSource(1))
	for range 2000 {
		v := copyOf(doc(fullText))
		shuffle(r, v)
		hold(t, "an order", v, fullPod())
	}
}

// P15.1: items stand in the pod in the order in which they stand in the document.
func TestOrderOfItems(t *testing.T) {
	for _, key := range []string{"command", "ports", "env"} {
		v := copyOf(doc(fullText))
		slices.Reverse(at(&v, "containers", 1, key).List)
		want := fullPod()
		c := &want.Containers[1]
		switch key {
		case "command":
			slices.Reverse(c.Command)
		case "ports":
			slices.Reverse(c.Ports)
		default:
			slices.Reverse(c.Env)
		}
		hold(t, key, v, want)
	}
	v, want := copyOf(doc(fullText)), fullPod()
	slices.Reverse(at(&v, "containers").List)
	slices.Reverse(want.Containers)
	hold(t, "containers", v, want)
}

// P15.1: what plays no part in a value's Kind counts for nothing.
func TestWhatPlaysNoPart(t *testing.T) {
	v := copyOf(doc(fullText))
	var fill func(x *value.Value)
	fill = func(x *value.Value) {
		for i := range x.List {
			fill(&x.List[i])
		}
		for i := range x.Keys {
			fill(&x.Keys[i].Value)
		}
		odd := value.Value{Flag: true, Int: 5, Text: "\xff", List: []value.Value{{Kind: 9}}, Keys: []value.Pair{{Key: "odd"}}}
		switch odd.Kind = x.Kind; x.Kind {
		case value.Flag:
			odd.Flag = x.Flag
		case value.Int:
			odd.Int = x.Int
		case value.Text:
			odd.Text = x.Text
		case value.List:
			odd.List = x.List
		case value.Keys:
			odd.Keys = x.Keys
		}
		*x = odd
	}
	fill(&v)
	hold(t, "odd values", v, fullPod())
}

// R3: the lists that are answered are new, whatever room stands behind them; R5: a document always has one answer.
func TestMemory(t *testing.T) {
	v := doc(fullText)
	p, _ := decode.Pod(v)
	q, _ := decode.Pod(v)
	for i := range p.Containers {
		c := &p.Containers[i]
		c.Command[0], c.Ports[0], c.Env[0] = "other", spec.Port{Number: 9}, spec.Env{Name: "OTHER"}
		_, _, _ = append(c.Command, "more"), append(c.Ports, spec.Port{}), append(c.Env, spec.Env{})
		*c = spec.Container{}
	}
	if !alike(q, fullPod()) {
		t.Errorf("with one answer another became %v", q)
	}
	hold(t, "again", v, fullPod())
}
