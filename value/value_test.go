package value_test

import (
	"math"
	"reflect"
	"strings"
	"testing"

	"bosun/api"
	"bosun/value"
)

// pair is a key, and its value.
func pair(key string, v value.Value) value.Pair { return value.Pair{Key: key, Value: v} }

// keys are keys whose values are null.
func keys(l ...string) value.Value {
	var m []value.Pair
	for _, key := range l {
		m = append(m, pair(key, value.Value{}))
	}
	return value.Map(m...)
}

// inRows is a value in so many lists.
func inRows(n int, v value.Value) value.Value {
	for range n {
		v = value.Row(v)
	}
	return v
}

// inMaps is a value in so many keys.
func inMaps(n int, v value.Value) value.Value {
	for range n {
		v = value.Map(pair("k", v))
	}
	return v
}

// stuffed is a value of a Kind in which all is set, with what is wrong, deep and plenty where it plays a part.
func stuffed(k value.Kind) value.Value {
	return value.Value{
		Kind: k,
		Flag: true,
		Int:  7,
		Text: "\xff",
		List: []value.Value{inRows(40, value.Value{Kind: 9})},
		Keys: []value.Pair{pair("\xff", value.Of("\xff")), pair("\xff", inMaps(40, value.Value{}))},
	}
}

// kindsThatAreNone are some of them.
func kindsThatAreNone() []value.Kind {
	return []value.Kind{-1, 6, 7, -5, 256, 1 << 32, 1<<32 + 3, math.MinInt, math.MaxInt}
}

// checked is a value, and what Check answers.
type checked struct {
	what string
	v    value.Value
	want api.Errno
}

func holdChecks(t *testing.T, l []checked) {
	t.Helper()
	for _, c := range l {
		if e := c.v.Check(); e != c.want {
			t.Errorf("%s: Check answers %v, not %v", c.what, e, c.want)
		}
	}
}

func holdDepth(t *testing.T, what string, v value.Value, want int) {
	t.Helper()
	if n := v.Depth(); n != want {
		t.Errorf("%s: Depth is %d, not %d", what, n, want)
	}
}

// holdSame holds Same both ways round, and where alike values have another Check or Depth (P5.3).
func holdSame(t *testing.T, what string, v, w value.Value, want bool) {
	t.Helper()
	if v.Same(w) != want || w.Same(v) != want {
		t.Errorf("%s: Same is %t, and the other way round %t, not %t", what, v.Same(w), w.Same(v), want)
	}
	if want && (v.Check() != w.Check() || v.Depth() != w.Depth()) {
		t.Errorf("%s: alike, but Check %v and %v, Depth %d and %d", what, v.Check(), w.Check(), v.Depth(), w.Depth())
	}
}

// P5.1: the chapter's example.
func TestExample(t *testing.T) {
	v := value.Row(value.Whole(1), value.Map())
	holdDepth(t, "the example", v, 2)
	if e := v.Check(); e != api.OK {
		t.Errorf("the example: Check answers %v", e)
	}
}

// P5.1
func TestDepth(t *testing.T) {
	one, text := value.Whole(1), value.Of("x")
	for _, c := range []struct {
		what string
		v    value.Value
		want int
	}{
		{"null", value.Value{}, 0},
		{"a flag", value.Yes(true), 0},
		{"a number", one, 0},
		{"a text", text, 0},
		{"an empty list", value.Row(), 1},
		{"empty keys", value.Map(), 1},
		{"a list of one", value.Row(one), 1},
		{"keys of one", value.Map(pair("a", one)), 1},
		{"a list of many", value.Row(one, text, one, value.Value{}), 1},
		{"keys of many", keys("a", "b", "c"), 1},
		{"a list of an empty list", value.Row(value.Row()), 2},
		{"keys of empty keys", value.Map(pair("a", value.Map())), 2},
		{"keys of a list of one", value.Map(pair("a", value.Row(one))), 2},
		{"a list of keys of one", value.Row(value.Map(pair("a", one))), 2},
		{"the first is the deepest", value.Row(inRows(4, one), inRows(2, one), one), 5},
		{"the middle is the deepest", value.Row(one, inMaps(4, one), inRows(2, one)), 5},
		{"the last is the deepest", value.Row(one, inRows(2, one), inMaps(4, one)), 5},
		{"of keys the last is the deepest", value.Map(pair("a", one), pair("b", inRows(2, one)), pair("c", inMaps(4, one))), 5},
		{"keys that are alike", value.Map(pair("a", one), pair("a", value.Row())), 2},
		{"32 lists", inRows(32, one), 32},
		{"33 lists", inRows(33, one), 33},
		{"32 keys, the inner ones empty", inMaps(31, value.Map()), 32},
		{"100 lists, the inner one empty", inRows(99, value.Row()), 100},
		{"50 lists in 50 keys", inMaps(50, inRows(50, one)), 100},
	} {
		holdDepth(t, c.what, c.v, c.want)
	}
}

// P5.1: what plays no part in a Kind counts for nothing, nor does anything of a Kind that is none.
func TestDepthOfWhatPlaysNoPart(t *testing.T) {
	for _, k := range append(kindsThatAreNone(), value.Null, value.Flag, value.Int, value.Text) {
		v := stuffed(k)
		if n, m := v.Depth(), value.Row(v).Depth(); n != 0 || m != 1 {
			t.Errorf("Kind %d: Depth is %d, in a list %d", k, n, m)
		}
	}
	v := stuffed(value.List)
	v.List = nil
	holdDepth(t, "an empty list that has keys", v, 1)
	w := stuffed(value.Keys)
	w.Keys = nil
	holdDepth(t, "empty keys that have a list", w, 1)
}

// P5.1: values that may be.
func TestCheckOfValuesThatMayBe(t *testing.T) {
	long := strings.Repeat("x", api.MaxText)
	wide := strings.Repeat("é", api.MaxText/2)
	one := value.Whole(1)
	holdChecks(t, []checked{
		{"null", value.Value{}, api.OK},
		{"yes", value.Yes(true), api.OK},
		{"no", value.Yes(false), api.OK},
		{"0", value.Whole(0), api.OK},
		{"the least number", value.Whole(math.MinInt64), api.OK},
		{"the greatest number", value.Whole(math.MaxInt64), api.OK},
		{"an empty text", value.Of(""), api.OK},
		{"a text of all sizes of characters", value.Of("a\x00é€\U0001F600\uFFFD\U0010FFFF"), api.OK},
		{"a text of 4096 bytes", value.Of(long), api.OK},
		{"a text of 4096 bytes, two a character", value.Of(wide), api.OK},
		{"an empty list", value.Row(), api.OK},
		{"empty keys", value.Map(), api.OK},
		{"a list of alike values", value.Row(one, one, value.Row(one), value.Row(one)), api.OK},
		{"a list of more than any limit", value.Row(make([]value.Value, 5000)...), api.OK},
		{"a key that is empty", keys(""), api.OK},
		{"a key of 4096 bytes", keys(long), api.OK},
		{"keys of 4096 bytes, unlike at the end", keys(long[1:]+"a", long[1:]+"b"), api.OK},
		{"keys that are nearly alike", keys("a", "A", "", " ", "a ", "aa", "\x00", "é", "e\u0301"), api.OK},
		{"alike keys of unlike values", value.Map(pair("a", keys("a", "b")), pair("b", keys("a", "b"))), api.OK},
		{"alike keys in unlike depths", inMaps(32, one), api.OK},
	})
}

// P5.1: each error, where nothing else is wrong.
func TestCheckOfEachError(t *testing.T) {
	long := strings.Repeat("x", api.MaxText+1)
	wide := strings.Repeat("é", api.MaxText/2) + "x"
	l := []checked{
		{"a text of 4097 bytes", value.Of(long), api.ErrLong},
		{"a text of 4097 bytes and fewer characters", value.Of(wide), api.ErrLong},
		{"a key of 4097 bytes", keys(long), api.ErrLong},
		{"a key of 4097 bytes and fewer characters", keys("a", wide), api.ErrLong},
		{"two keys that are alike", keys("a", "a"), api.ErrTwice},
		{"two keys that are empty", keys("", ""), api.ErrTwice},
		{"the first key and the last are alike", keys("a", "b", "c", "a"), api.ErrTwice},
		{"alike keys of unlike values", value.Map(pair("a", value.Whole(1)), pair("a", value.Whole(2))), api.ErrTwice},
		{"two keys of 4096 bytes that are alike", keys(long[1:], long[1:]), api.ErrTwice},
	}
	for _, s := range []string{"\xff", "\x80", "a\xc3", "\xc3(", "\xc0\x80", "\xed\xa0\x80", "\xf4\x90\x80\x80", "\xe2\x82", "abc\xfe", "\xff" + long[2:]} {
		l = append(l, checked{"a text that is no valid UTF-8", value.Of(s), api.ErrText})
		l = append(l, checked{"a key that is no valid UTF-8", keys("a", s), api.ErrText})
	}
	for _, k := range kindsThatAreNone() {
		l = append(l, checked{"a Kind that is none", value.Value{Kind: k}, api.ErrType})
	}
	holdChecks(t, l)
	for _, c := range l {
		holdChecks(t, []checked{
			{c.what + ", in a list", value.Row(value.Value{}, c.v, value.Whole(1)), c.want},
			{c.what + ", of a key", value.Map(pair("x", value.Value{}), pair("y", c.v), pair("z", value.Yes(true))), c.want},
			{c.what + ", 31 lists deep", inRows(31, c.v), c.want},
			{c.what + ", in lists and keys", inMaps(7, inRows(8, c.v)), c.want},
		})
	}
}

// P5.1: values lie 32 deep, and one more.
func TestCheckOfDeepValues(t *testing.T) {
	one := value.Whole(1)
	holdChecks(t, []checked{
		{"32 lists", inRows(32, one), api.OK},
		{"33 lists", inRows(33, one), api.ErrDeep},
		{"32 keys", inMaps(32, one), api.OK},
		{"33 keys", inMaps(33, one), api.ErrDeep},
		{"32 lists, the inner one empty", inRows(31, value.Row()), api.OK},
		{"33 lists, the inner one empty", inRows(32, value.Row()), api.ErrDeep},
		{"32 keys, the inner ones empty", inMaps(31, value.Map()), api.OK},
		{"33 keys, the inner ones empty", inMaps(32, value.Map()), api.ErrDeep},
		{"16 lists in 16 keys", inMaps(16, inRows(16, one)), api.OK},
		{"17 lists in 16 keys", inMaps(16, inRows(17, one)), api.ErrDeep},
		{"the last value lies too deep", value.Row(one, inRows(31, one), inRows(32, one)), api.ErrDeep},
		{"the first value lies too deep", value.Row(inMaps(32, one), one), api.ErrDeep},
		{"the last key's value lies too deep", value.Map(pair("a", one), pair("b", inRows(32, one))), api.ErrDeep},
		{"all lie as deep as they may", value.Row(inRows(31, one), inMaps(31, one)), api.OK},
		{"a thousand lists", inRows(1000, one), api.ErrDeep},
	})
}

// P5.1: ErrDeep comes ahead of all, wherever it shows.
func TestDeepComesFirst(t *testing.T) {
	deep := inRows(32, value.Value{})
	long := strings.Repeat("x", api.MaxText+1)
	holdChecks(t, []checked{
		{"behind a Kind that is none", value.Row(value.Value{Kind: -1}, deep), api.ErrDeep},
		{"around a Kind that is none", inRows(33, value.Value{Kind: 6}), api.ErrDeep},
		{"behind a text that is none", value.Row(value.Of("\xff"), deep), api.ErrDeep},
		{"of a key that is no text", value.Map(pair("\xff", deep)), api.ErrDeep},
		{"behind a text that is too long", value.Row(value.Of(long), deep), api.ErrDeep},
		{"of a key that is too long", value.Map(pair(long, deep)), api.ErrDeep},
		{"of a key that is there twice", value.Map(pair("a", value.Value{}), pair("a", deep)), api.ErrDeep},
	})
}

// P5.1: a value comes ahead of those in it, and these from the left, each with all that is in it.
func TestOrderOfValues(t *testing.T) {
	long := value.Of(strings.Repeat("x", api.MaxText+1))
	bad, none, twice := value.Of("\xff"), value.Value{Kind: 6}, keys("a", "a")
	for _, c := range []struct {
		v    value.Value
		want api.Errno
	}{{long, api.ErrLong}, {bad, api.ErrText}, {none, api.ErrType}, {twice, api.ErrTwice}} {
		for _, other := range []value.Value{long, bad, none, twice} {
			holdChecks(t, []checked{
				{"in a list", value.Row(value.Value{}, c.v, other), c.want},
				{"in keys", value.Map(pair("b", c.v), pair("a", other)), c.want},
				{"deep in the first value of a list", value.Row(inRows(9, c.v), other), c.want},
				{"deep in the first value of keys", value.Map(pair("b", inMaps(9, c.v)), pair("a", other)), c.want},
				{"ahead of one that is deeper", value.Row(c.v, inRows(9, other)), c.want},
				{"within one key's value", value.Map(pair("b", value.Row(value.Row(), c.v)), pair("a", other)), c.want},
			})
		}
	}
}

// P5.1: of keys all of one value come first, then ErrTwice, then their values.
func TestOrderOfKeys(t *testing.T) {
	long := strings.Repeat("x", api.MaxText+1)
	bad, none := value.Of("\xff"), value.Value{Kind: 6}
	holdChecks(t, []checked{
		{"a key that is both", keys(long + "\xff"), api.ErrText},
		{"a text that is both", value.Of("\xff" + long), api.ErrText},
		{"a key too long ahead of one that is no text", keys("a", long, "\xff"), api.ErrLong},
		{"a key that is no text ahead of one too long", keys("a", "\xff", long), api.ErrText},
		{"alike keys ahead of one that is no text", keys("a", "a", "\xff"), api.ErrText},
		{"alike keys ahead of one too long", keys("a", "a", long), api.ErrLong},
		{"alike keys that are too long", keys(long, long), api.ErrLong},
		{"alike keys that are no text", keys("\xff", "\xff"), api.ErrText},
		{"a value of no Kind ahead of alike keys", value.Map(pair("a", none), pair("b", none), pair("b", none)), api.ErrTwice},
		{"a text that is none ahead of alike keys", value.Map(pair("a", bad), pair("a", bad)), api.ErrTwice},
		{"a value of no Kind ahead of a key too long", value.Map(pair("a", none), pair(long, none)), api.ErrLong},
		{"a value of no Kind ahead of a key that is no text", value.Map(pair("a", none), pair("\xff", none)), api.ErrText},
		{"alike keys inside ahead of alike keys", value.Map(pair("a", value.Of(long)), pair("b", keys("c", "c")), pair("a", none)), api.ErrTwice},
		{"inner keys ahead of outer ones that are no text", value.Map(pair("a", keys("c", "c")), pair("\xff", none)), api.ErrText},
		{"inner keys too long, outer ones alike", value.Map(pair("a", keys(long)), pair("a", none)), api.ErrTwice},
	})
}

// P5.1: what plays no part in a Kind may be what it likes.
func TestCheckOfWhatPlaysNoPart(t *testing.T) {
	for _, k := range []value.Kind{value.Null, value.Flag, value.Int} {
		if e := stuffed(k).Check(); e != api.OK {
			t.Errorf("Kind %d: Check answers %v", k, e)
		}
	}
	for _, k := range kindsThatAreNone() {
		if e := stuffed(k).Check(); e != api.ErrType {
			t.Errorf("Kind %d: Check answers %v", k, e)
		}
	}
	text, list, pairs := stuffed(value.Text), stuffed(value.List), stuffed(value.Keys)
	holdChecks(t, []checked{
		{"the text", text, api.ErrText},
		{"the list", list, api.ErrDeep},
		{"the keys", pairs, api.ErrDeep},
	})
	text.Text, list.List, pairs.Keys = "x", []value.Value{stuffed(value.Int)}, []value.Pair{pair("a", stuffed(value.Null))}
	holdChecks(t, []checked{
		{"a text, with lists and keys", text, api.OK},
		{"a list, with a text and keys", list, api.OK},
		{"keys, with a text and a list", pairs, api.OK},
		{"32 deep, with lists that play no part", inRows(32, text), api.OK},
	})
}

// P5.1: a list that is in itself lies too deep, however many there are of it.
func TestCheckOfAListInItself(t *testing.T) {
	l := make([]value.Value, 3)
	l[0] = value.Whole(1)
	l[1] = value.Value{Kind: value.List, List: l}
	l[2] = value.Value{Kind: value.Keys, Keys: []value.Pair{pair("a", l[1]), pair("b", l[1])}}
	holdChecks(t, []checked{{"a list in itself", value.Value{Kind: value.List, List: l}, api.ErrDeep}})
}

// P5.1, R1: values that lie far deeper than calls may.
func TestFarTooDeep(t *testing.T) {
	const deep = 2_500_000
	chain := func(last value.Value) value.Value {
		for i := range deep {
			if i%2 == 0 {
				last = value.Value{Kind: value.List, List: []value.Value{last}}
			} else {
				last = value.Value{Kind: value.Keys, Keys: []value.Pair{pair("k", last)}}
			}
		}
		return last
	}
	v, w := chain(value.Whole(1)), chain(value.Whole(2))
	holdDepth(t, "far too deep", v, deep)
	if e := v.Check(); e != api.ErrDeep {
		t.Errorf("far too deep: Check answers %v", e)
	}
	if !v.Same(v) || v.Same(w) {
		t.Errorf("far too deep: Same of itself is %t, of one unlike at its end %t", v.Same(v), v.Same(w))
	}
}

// P5.2
func TestMakers(t *testing.T) {
	one, text := value.Whole(1), value.Of("x")
	for _, c := range []struct {
		what    string
		v, want value.Value
	}{
		{"Of", value.Of("a\xff"), value.Value{Kind: value.Text, Text: "a\xff"}},
		{"Of nothing", value.Of(""), value.Value{Kind: value.Text}},
		{"Whole", value.Whole(-7), value.Value{Kind: value.Int, Int: -7}},
		{"Whole of the least", value.Whole(math.MinInt64), value.Value{Kind: value.Int, Int: math.MinInt64}},
		{"Whole of the greatest", value.Whole(math.MaxInt64), value.Value{Kind: value.Int, Int: math.MaxInt64}},
		{"Yes", value.Yes(true), value.Value{Kind: value.Flag, Flag: true}},
		{"Yes of false", value.Yes(false), value.Value{Kind: value.Flag}},
		{"Row", value.Row(one, text), value.Value{Kind: value.List, List: []value.Value{one, text}}},
		{"Row of what may not be", value.Row(stuffed(-1)), value.Value{Kind: value.List, List: []value.Value{stuffed(-1)}}},
		{"Map", value.Map(pair("b", one), pair("a", text)), value.Value{Kind: value.Keys, Keys: []value.Pair{pair("b", one), pair("a", text)}}},
		{"Map of alike keys", value.Map(pair("a", one), pair("a", text)), value.Value{Kind: value.Keys, Keys: []value.Pair{pair("a", one), pair("a", text)}}},
	} {
		if !reflect.DeepEqual(c.v, c.want) {
			t.Errorf("%s: %+v, not %+v", c.what, c.v, c.want)
		}
	}
	for _, v := range []value.Value{value.Row(), value.Row([]value.Value{}...), value.Map(), value.Map([]value.Pair{}...)} {
		if (v.Kind != value.List && v.Kind != value.Keys) || len(v.List) != 0 || len(v.Keys) != 0 || v.Flag || v.Int != 0 || v.Text != "" {
			t.Errorf("of nothing: %+v", v)
		}
	}
	if value.Row().Kind != value.List || value.Map().Kind != value.Keys {
		t.Errorf("of nothing: the Kinds %d and %d", value.Row().Kind, value.Map().Kind)
	}
}

// P5.2, R3: lists that are handed in aren't kept, nor is the room behind them written to.
func TestMakersKeepNoList(t *testing.T) {
	l := []value.Value{value.Whole(1), value.Whole(2), value.Whole(3)}
	m := []value.Pair{pair("a", l[0]), pair("b", l[1]), pair("c", l[2])}
	row, pairs := value.Row(l[:2]...), value.Map(m[:2]...)
	_, _ = append(row.List, value.Of("x")), append(pairs.Keys, pair("x", value.Of("x")))
	if l[2].Int != 3 || m[2].Key != "c" {
		t.Error("the room behind a list that was handed in is that of the answer")
	}
	l[0], m[0] = value.Of("x"), pair("x", value.Of("x"))
	if !reflect.DeepEqual(row, value.Row(value.Whole(1), value.Whole(2))) {
		t.Errorf("Row kept a list that was handed in: %+v", row)
	}
	if !reflect.DeepEqual(pairs, value.Map(pair("a", value.Whole(1)), pair("b", value.Whole(2)))) {
		t.Errorf("Map kept a list that was handed in: %+v", pairs)
	}
}

// P5.2
func TestGet(t *testing.T) {
	one, two := value.Whole(1), value.Of("two")
	v := value.Map(pair("a", one), pair("b", value.Row(two)), pair("a", two), pair("", two), pair("\xff", one), pair("n", value.Value{}))
	for _, c := range []struct {
		what, key string
		v, want   value.Value
		ok        bool
	}{
		{"a key that is there twice", "a", v, one, true},
		{"a key", "b", v, value.Row(two), true},
		{"the empty key", "", v, two, true},
		{"a key that is no text", "\xff", v, one, true},
		{"a key whose value is null", "n", v, value.Value{}, true},
		{"no key", "c", v, value.Value{}, false},
		{"a key's beginning", "aa", v, value.Value{}, false},
		{"another letter's size", "A", v, value.Value{}, false},
		{"a key of inner keys", "k", value.Map(pair("a", inMaps(1, one))), value.Value{}, false},
		{"of empty keys", "a", value.Map(), value.Value{}, false},
		{"of empty keys the empty key", "", value.Map(), value.Value{}, false},
		{"of a list", "a", value.Row(one), value.Value{}, false},
		{"of a list of keys", "a", value.Row(v), value.Value{}, false},
		{"of null", "", value.Value{}, value.Value{}, false},
		{"of a text", "a", value.Of("a"), value.Value{}, false},
	} {
		got, ok := c.v.Get(c.key)
		if ok != c.ok || !reflect.DeepEqual(got, c.want) {
			t.Errorf("%s: Get(%q) is %+v, %t", c.what, c.key, got, ok)
		}
	}
}

// P5.2: keys that play no part aren't there.
func TestGetOfWhatPlaysNoPart(t *testing.T) {
	for _, k := range append(kindsThatAreNone(), value.Null, value.Flag, value.Int, value.Text, value.List) {
		v := value.Value{Kind: k, Keys: []value.Pair{pair("a", value.Whole(1))}}
		if got, ok := v.Get("a"); ok || !reflect.DeepEqual(got, value.Value{}) {
			t.Errorf("Kind %d: Get is %+v, %t", k, got, ok)
		}
	}
	if got, ok := stuffed(value.Keys).Get("\xff"); !ok || !got.Same(value.Of("\xff")) {
		t.Errorf("of keys, with all else set: Get is %+v, %t", got, ok)
	}
}
