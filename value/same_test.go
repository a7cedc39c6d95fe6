package value_test

import (
	"math/rand"
	"reflect"
	"slices"
	"testing"
	"unicode/utf8"

	"bosun/api"
	"bosun/value"
)

// unlike are values no two of which are alike.
func unlike() []value.Value {
	one, two, null := value.Whole(1), value.Whole(2), value.Value{}
	l := []value.Value{
		null,
		value.Yes(false), value.Yes(true),
		value.Whole(0), one, two, value.Whole(-1), value.Whole(1 << 62), value.Whole(-1 << 63),
		value.Of(""), value.Of("1"), value.Of("2"), value.Of("a"), value.Of("A"), value.Of("a\x00"), value.Of("\xff"), value.Of("\xfe"), value.Of("\uFFFD"),
		value.Row(), value.Row(null), value.Row(null, null), value.Row(one), value.Row(one, two), value.Row(two, one), value.Row(one, two, null),
		value.Row(value.Row()), value.Row(value.Map()), value.Row(value.Row(), null), value.Row(null, value.Row()),
		value.Row(value.Row(one), two), value.Row(value.Row(two), one), value.Row(value.Row(one, two)), value.Row(value.Row(), value.Row(one, two)),
		value.Row(value.Row(one), value.Row(two)), value.Row(value.Row(one, two), value.Row()), value.Row(value.Row(one), value.Row(one)),
		value.Map(), keys(""), keys("a"), keys("b"), keys("a", "b"), keys("b", "a"), keys("a", "a"), keys("a", "b", "c"), keys("\xff"),
		value.Map(pair("a", one)), value.Map(pair("a", two)), value.Map(pair("b", one)),
		value.Map(pair("a", one), pair("b", two)), value.Map(pair("b", two), pair("a", one)), value.Map(pair("a", two), pair("b", one)),
		value.Map(pair("a", one), pair("a", two)), value.Map(pair("a", two), pair("a", one)),
		value.Map(pair("a", keys("b")), pair("c", null)), value.Map(pair("a", null), pair("b", keys("c"))), value.Map(pair("a", value.Row())),
		inRows(31, one), inRows(32, one), inRows(33, one), inRows(34, one), inRows(34, two), inMaps(32, one), inMaps(33, one), inMaps(33, two),
		value.Row(inRows(9, one), inRows(9, two)), value.Row(inRows(9, two), inRows(9, one)), value.Row(inMaps(9, one), inRows(9, two)),
	}
	for _, k := range kindsThatAreNone() {
		l = append(l, value.Value{Kind: k})
	}
	return l
}

// twin is a value of memory of its own, of which all is set that plays no part, and an empty list is nil no more, or
// the other way round.
func twin(v value.Value) value.Value {
	w := stuffed(v.Kind)
	switch v.Kind {
	case value.Flag:
		w.Flag = v.Flag
	case value.Int:
		w.Int = v.Int
	case value.Text:
		w.Text = string([]byte(v.Text))
	case value.List:
		w.List = nil
		if v.List == nil {
			w.List = []value.Value{}
		}
		for _, x := range v.List {
			w.List = append(w.List, twin(x))
		}
	case value.Keys:
		w.Keys = nil
		if v.Keys == nil {
			w.Keys = []value.Pair{}
		}
		for _, p := range v.Keys {
			w.Keys = append(w.Keys, pair(p.Key, twin(p.Value)))
		}
	}
	return w
}

// P5.1, P5.3: each value is alike itself and its twin, and no other.
func TestSame(t *testing.T) {
	for i, v := range unlike() {
		for j, w := range unlike() {
			holdSame(t, "a value and another", v, w, i == j)
			holdSame(t, "a value and another's twin", v, twin(w), i == j)
			holdSame(t, "both in lists", inRows(3, v), inRows(3, w), i == j)
			holdSame(t, "both in keys", inMaps(3, v), inMaps(3, twin(w)), i == j)
			holdSame(t, "both among others", value.Row(v, value.Map(pair("a", w))), value.Row(v, value.Map(pair("a", v))), i == j)
		}
	}
}

// R3: nothing that is handed in is changed.
func TestNothingIsChanged(t *testing.T) {
	for _, v := range unlike() {
		w, copied := twin(v), twin(v)
		w.Check()
		w.Depth()
		w.Same(v)
		v.Same(w)
		w.Get("a")
		value.Row(w, w)
		value.Map(pair("a", w), pair("b", w))
		if !reflect.DeepEqual(w, copied) {
			t.Errorf("%+v was changed", copied)
		}
	}
}

// depthOf is how deep a value lies, by the chapter's words.
func depthOf(v value.Value) int {
	deepest := 0
	switch v.Kind {
	case value.List:
		for _, x := range v.List {
			deepest = max(deepest, depthOf(x))
		}
		return deepest + 1
	case value.Keys:
		for _, p := range v.Keys {
			deepest = max(deepest, depthOf(p.Value))
		}
		return deepest + 1
	}
	return 0
}

// faultsOf are all errors but ErrDeep, in the order of the chapter's section 'Errors'.
func faultsOf(v value.Value) []api.Errno {
	var l []api.Errno
	text := func(s string) {
		if !utf8.ValidString(s) {
			l = append(l, api.ErrText)
		}
		if len(s) > 4096 {
			l = append(l, api.ErrLong)
		}
	}
	if v.Kind < 0 || v.Kind > 5 {
		l = append(l, api.ErrType)
	}
	if v.Kind == value.Text {
		text(v.Text)
	}
	if v.Kind == value.List {
		for _, x := range v.List {
			l = append(l, faultsOf(x)...)
		}
	}
	if v.Kind == value.Keys {
		for _, p := range v.Keys {
			text(p.Key)
		}
		for i, p := range v.Keys {
			if slices.ContainsFunc(v.Keys[:i], func(q value.Pair) bool { return p.Key == q.Key }) {
				l = append(l, api.ErrTwice)
			}
		}
		for _, p := range v.Keys {
			l = append(l, faultsOf(p.Value)...)
		}
	}
	return l
}

// checkOf is what is wrong with a value, by the chapter's words.
func checkOf(v value.Value) api.Errno {
	if depthOf(v) > 32 {
		return api.ErrDeep
	}
	return append(faultsOf(v), api.OK)[0]
}

// sameAs says whether two values are alike, by the chapter's words.
func sameAs(v, w value.Value) bool {
	if v.Kind != w.Kind {
		return false
	}
	switch v.Kind {
	case value.Flag:
		return v.Flag == w.Flag
	case value.Int:
		return v.Int == w.Int
	case value.Text:
		return v.Text == w.Text
	case value.List:
		return slices.EqualFunc(v.List, w.List, sameAs)
	case value.Keys:
		return slices.EqualFunc(v.Keys, w.Keys, func(p, q value.Pair) bool { return p.Key == q.Key && sameAs(p.Value, q.Value) })
	}
	return true
}

// maker makes random values, of few kinds of parts, so that some come alike.
type maker struct {
	*rand.Rand
	long string
	bad  int // of how many texts and Kinds one may not be
}

func (m maker) text() string {
	if m.Intn(m.bad) == 0 {
		return []string{"\xff", m.long, m.long + "\xff"}[m.Intn(3)]
	}
	return []string{"", "a", "b", "c", "é", m.long[1:]}[m.Intn(6)]
}

// value makes one that lies at most so deep.
func (m maker) value(deep int) value.Value {
	kind := value.Kind(m.Intn(6))
	if m.Intn(m.bad) == 0 {
		kind = value.Kind(m.Intn(20) - 10)
	}
	v := value.Value{Kind: kind, Flag: m.Intn(2) == 0, Int: int64(m.Intn(3)), Text: m.text()}
	for range m.Intn(4) {
		if deep > 0 {
			v.List = append(v.List, m.value(deep-1))
			v.Keys = append(v.Keys, pair(m.text(), m.value(deep-1)))
		}
	}
	return v
}

// changed is a value of memory of its own, in which one part may be another.
func (m maker) changed(v value.Value) value.Value {
	w := twin(v)
	switch {
	case m.Intn(3) == 0:
		return m.value(1)
	case v.Kind == value.List && len(v.List) > 0:
		i := m.Intn(len(v.List))
		w.List[i] = m.changed(v.List[i])
	case v.Kind == value.Keys && len(v.Keys) > 0:
		i := m.Intn(len(v.Keys))
		w.Keys[i].Value = m.changed(v.Keys[i].Value)
	}
	return w
}

// P5.1, P5.3: random values, held against the chapter's words.
func TestRandomValues(t *testing.T) {
	long := make([]byte, api.MaxText+1)
	for i := range long {
		long[i] = 'x'
	}
	m := maker{rand.New(rand.NewSource(5)), string(long), 5}
	checks, sames := map[api.Errno]int{}, map[bool]int{}
	for i := range 6000 {
		m.bad = 5 + i%100
		v := m.value(i % 4)
		for range m.Intn(2) * m.Intn(36) {
			v = []value.Value{value.Row(v, value.Whole(1)), value.Map(pair("a", value.Of("x")), pair("b", v))}[m.Intn(2)]
		}
		w := m.changed(v)
		if n := v.Depth(); n != depthOf(v) {
			t.Fatalf("Depth of %+v is %d, not %d", v, n, depthOf(v))
		}
		if e := v.Check(); e != checkOf(v) {
			t.Fatalf("Check of %+v answers %v, not %v", v, e, checkOf(v))
		}
		holdSame(t, "a value and its twin", v, twin(v), true)
		holdSame(t, "a value and one that was changed", v, w, sameAs(v, w))
		checks[v.Check()]++
		sames[sameAs(v, w)]++
	}
	for _, e := range []api.Errno{api.OK, api.ErrDeep, api.ErrType, api.ErrText, api.ErrLong, api.ErrTwice} {
		if checks[e] < 10 {
			t.Errorf("of the values only %d answer %v", checks[e], e)
		}
	}
	if sames[true] < 50 || sames[false] < 50 {
		t.Errorf("%d values stayed alike, %d did not", sames[true], sames[false])
	}
}
