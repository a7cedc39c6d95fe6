package decode_test

import (
	"maps"
	"math/rand"
	"slices"
	"strconv"
	"strings"
	"testing"

	"bosun/api"
	"bosun/spec"
	"bosun/value"
)

// shape is what a value should be, by the chapter's words.
type shape struct {
	kind  value.Kind
	words []string          // a text is one of these, if there are any
	item  *shape            // of a list,
	least int               // which has mostly so many at least
	keys  map[string]*shape // of keys
	may   []value.Value     // what layer 14 allows there
	odd   []value.Value     // and what it doesn't
}

// texts are words of a line, some that layer 14 allows, and some that it doesn't.
func texts(may, odd string) *shape {
	s := &shape{kind: value.Text}
	for _, x := range strings.Split(may, " ") {
		s.may = append(s.may, value.Of(x))
	}
	for _, x := range strings.Split(odd, " ") {
		s.odd = append(s.odd, value.Of(x))
	}
	return s
}

// wholes are numbers from 1 to most, and others.
func wholes(most int64) *shape {
	may := append(many(60, func(i int) value.Value { return value.Whole(int64(i) + 1) }), value.Whole(most-1), value.Whole(most))
	return &shape{kind: value.Int, may: may, odd: []value.Value{value.Whole(-1), value.Whole(0), value.Whole(most + 1)}}
}

// words are those, and others.
func words(l ...string) *shape {
	s := texts(strings.Join(l, " "), "none Always TCP 0")
	s.words = l
	return s
}

// podShape is that of a document.
func podShape() *shape {
	names := strings.Join(many(200, func(i int) string { return "n-" + strconv.Itoa(i) }), " ")
	port := &shape{kind: value.Keys, keys: map[string]*shape{"number": wholes(65535), "proto": words("tcp", "udp")}}
	variable := &shape{kind: value.Keys, keys: map[string]*shape{"name": texts(strings.ToUpper(strings.ReplaceAll(names, "-", "_")), "- 1"), "value": texts(names+" "+strings.Repeat("é", 2048), "é \x00")}}
	container := &shape{kind: value.Keys, keys: map[string]*shape{
		"name":    texts(names, "A a.b -"),
		"image":   texts("nginx a:1", "A -"),
		"command": {kind: value.List, item: texts(names, "é \x00")},
		"ports":   {kind: value.List, item: port},
		"cpu":     wholes(64000),
		"memory":  wholes(1 << 20),
		"env":     {kind: value.List, item: variable},
	}}
	return &shape{kind: value.Keys, keys: map[string]*shape{
		"name":       texts("web a.b", "A ."),
		"namespace":  texts("a b-c", "a.b -"),
		"restart":    words("always", "on-failure", "never"),
		"grace":      wholes(3600),
		"host":       {kind: value.Flag, may: []value.Value{value.Yes(true), value.Yes(false)}, odd: []value.Value{value.Yes(true)}},
		"containers": {kind: value.List, item: container, least: 1},
	}}
}

// faults are all that is wrong with a value, in the order of the section 'Errors'.
func (s *shape) faults(v value.Value) (l []api.Errno) {
	if v.Kind != s.kind {
		return []api.Errno{api.ErrType}
	}
	if s.words != nil && !slices.Contains(s.words, v.Text) {
		l = append(l, api.ErrForm)
	}
	if s.kind == value.List {
		for _, x := range v.List {
			l = append(l, s.item.faults(x)...)
		}
	}
	if s.kind == value.Keys {
		for _, p := range v.Keys {
			switch inner := s.keys[p.Key]; {
			case inner == nil:
				l = append(l, api.ErrField)
			case p.Value.Kind != value.Null:
				l = append(l, inner.faults(p.Value)...)
			}
		}
	}
	return l
}

// get is the value of a key; that of null is as if there were none.
func get(v value.Value, key string) value.Value {
	x, _ := v.Get(key)
	return x
}

// modelPod is the pod of a document with no faults, without defaults.
func modelPod(v value.Value) spec.Pod {
	p := spec.Pod{Name: get(v, "name").Text, Namespace: get(v, "namespace").Text, Grace: get(v, "grace").Int, Host: get(v, "host").Flag}
	switch get(v, "restart").Text {
	case "on-failure":
		p.Restart = 1
	case "never":
		p.Restart = 2
	}
	for _, x := range get(v, "containers").List {
		c := spec.Container{Name: get(x, "name").Text, Image: get(x, "image").Text, Cpu: get(x, "cpu").Int, Memory: get(x, "memory").Int}
		for _, y := range get(x, "command").List {
			c.Command = append(c.Command, y.Text)
		}
		for _, y := range get(x, "ports").List {
			r := spec.Port{Number: get(y, "number").Int}
			if get(y, "proto").Text == "udp" {
				r.Proto = 1
			}
			c.Ports = append(c.Ports, r)
		}
		for _, y := range get(x, "env").List {
			c.Env = append(c.Env, spec.Env{Name: get(y, "name").Text, Value: get(y, "value").Text})
		}
		p.Containers = append(p.Containers, c)
	}
	return p
}

// model is what Pod answers, by the chapter's words.
func model(whole *shape, v value.Value) (spec.Pod, api.Errno) {
	if e := v.Check(); e != api.OK {
		return spec.Pod{}, e
	}
	if l := whole.faults(v); len(l) > 0 {
		return spec.Pod{}, l[0]
	}
	p := modelPod(v).Default()
	if e := p.Check(); e != api.OK {
		return spec.Pod{}, e
	}
	return p, api.OK
}

// maker makes random documents, of which one part in so many is odd.
type maker struct {
	*rand.Rand
	odd int
}

// oddly says whether something is to be odd.
func (m maker) oddly() bool { return m.Intn(m.odd) == 0 }

// value is one of a shape, or of another one, if it is to be odd.
func (m maker) value(s *shape) value.Value {
	if m.oddly() {
		l := append(kinds(), value.Value{}, value.Value{})
		if m.Intn(10) == 0 {
			l = []value.Value{{Kind: 6}, value.Of("\xff")}
		}
		return l[m.Intn(len(l))]
	}
	switch s.kind {
	case value.List:
		return m.list(s)
	case value.Keys:
		return m.keys(s)
	}
	l := s.may
	if m.oddly() {
		l = s.odd
	}
	return l[m.Intn(len(l))]
}

// list is one of up to four items, or, if there are to be odd many, of none or of 17.
func (m maker) list(s *shape) value.Value {
	n := s.least + m.Intn(5-s.least)
	if m.oddly() {
		n = min(m.Intn(4), 1) * 17
	}
	return value.Row(many(n, func(int) value.Value { return m.value(s.item) })...)
}

// needed are keys that are mostly there.
var needed = []string{"name", "image", "containers", "number"}

// keys are some of those of a shape, in any order, with nulls, and, if they are to be odd, with others, too.
func (m maker) keys(s *shape) value.Value {
	var l []value.Pair
	for _, key := range slices.Sorted(maps.Keys(s.keys)) {
		inner := s.keys[key]
		switch need := slices.Contains(needed, key); {
		case need && !m.oddly() || !need && m.Intn(3) > 0:
			l = append(l, value.Pair{Key: key, Value: m.value(inner)})
		case m.Intn(2) == 0:
			l = append(l, value.Pair{Key: key})
		}
	}
	for m.oddly() {
		key := []string{"", "x", "name", "Name", "proto", "value", "host", "image"}[m.Intn(8)]
		if s.keys[key] == nil || m.Intn(10) == 0 {
			l = append(l, value.Pair{Key: key, Value: m.value(texts("a", "b"))})
		}
	}
	m.Shuffle(len(l), func(i, j int) { l[i], l[j] = l[j], l[i] })
	return value.Map(l...)
}

// P15.1: random documents, from those in which much is odd to those in which almost nothing is, against the model.
func TestAgainstModel(t *testing.T) {
	seen := map[api.Errno]int{}
	whole := podShape()
	for n := range 30000 {
		m := maker{rand.New(rand.NewSource(int64(n))), 4 << (n % 9)}
		v := m.value(whole)
		want, e := model(whole, v)
		seen[e]++
		either(t, "a document", v, want, e)
		if t.Failed() {
			t.Fatalf("it is document %d", n)
		}
	}
	for _, e := range []api.Errno{api.OK, api.ErrName, api.ErrRange, api.ErrNone, api.ErrFull, api.ErrTwice, api.ErrForm, api.ErrText, api.ErrType, api.ErrField} {
		if seen[e] < 150 {
			t.Errorf("only %d documents were %v", seen[e], e)
		}
	}
}

// P15.2: of random documents, the order of keys, and nulls, change nothing but which error is told first.
func TestOrderAndNulls(t *testing.T) {
	whole := podShape()
	right, wrong := 0, 0
	for n := range 6000 {
		m := maker{rand.New(rand.NewSource(int64(n))), 16 << (n % 6)}
		v := m.value(whole)
		if v.Check() != api.OK {
			continue // a null that is away could make it right
		}
		p, e := answer(t, v)
		x := copyOf(v)
		m.nulls(whole, &x)
		shuffle(m.Rand, x)
		if e == api.OK {
			hold(t, "another order", x, p)
			right++
			continue
		}
		if q, e := answer(t, x); e == api.OK || !alike(q, spec.Pod{}) {
			t.Errorf("%s is no document, but in another order it is %s", short(v), short(q))
		}
		wrong++
	}
	if right < 500 || wrong < 500 {
		t.Errorf("%d documents were right, %d wrong", right, wrong)
	}
}

// nulls puts null for some keys that aren't there, or are there with null, and does away with others that are.
func (m maker) nulls(s *shape, v *value.Value) {
	if v.Kind != s.kind {
		return
	}
	for i := range v.List {
		if s.item != nil {
			m.nulls(s.item, &v.List[i])
		}
	}
	v.Keys = slices.DeleteFunc(v.Keys, func(p value.Pair) bool {
		return p.Value.Kind == value.Null && s.keys[p.Key] != nil && m.Intn(2) == 0
	})
	for i, p := range v.Keys {
		if inner := s.keys[p.Key]; inner != nil {
			m.nulls(inner, &v.Keys[i].Value)
		}
	}
	for _, key := range slices.Sorted(maps.Keys(s.keys)) {
		if _, ok := v.Get(key); !ok && m.Intn(2) == 0 {
			v.Keys = append(v.Keys, value.Pair{Key: key})
		}
	}
}
