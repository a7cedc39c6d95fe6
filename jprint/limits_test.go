package jprint_test

import (
	"math"
	"strconv"
	"strings"
	"testing"

	"bosun/api"
	"bosun/jprint"
	"bosun/json"
	"bosun/value"
)

// inRows is a value in so many lists.
func inRows(n int, v value.Value) value.Value {
	for range n {
		v = value.Row(v)
	}
	return v
}

// inMaps is a value in so many keys.
func inMaps(n int, v value.Value) value.Value {
	for range n {
		v = value.Map(pair("k", v))
	}
	return v
}

// inTurns is a value in so many lists and keys, in turns.
func inTurns(n int, v value.Value) value.Value {
	for i := range n {
		if i%2 == 0 {
			v = value.Row(v)
		} else {
			v = value.Map(pair("k", v))
		}
	}
	return v
}

// P9.1, P9.2: lists and keys within each other, up to 32, and one more.
func TestDeep(t *testing.T) {
	for s, v := range map[string]value.Value{"null": {}, "-7": value.Whole(-7), `"x"`: value.Of("x"), "true": value.Yes(true)} {
		for n := range 33 {
			printed(t, inRows(n, v), strings.Repeat("[", n)+s+strings.Repeat("]", n))
			printed(t, inMaps(n, v), strings.Repeat(`{"k":`, n)+s+strings.Repeat("}", n))
			if n%2 == 0 {
				printed(t, inTurns(n, v), strings.Repeat(`{"k":[`, n/2)+s+strings.Repeat("]}", n/2))
			}
		}
		for _, n := range []int{33, 34, 50, 1000} {
			refused(t, inRows(n, v), api.ErrDeep)
			refused(t, inMaps(n, v), api.ErrDeep)
			refused(t, inTurns(n, v), api.ErrDeep)
		}
	}
	printed(t, inRows(31, value.Row()), strings.Repeat("[", 32)+strings.Repeat("]", 32))
	printed(t, inMaps(31, value.Map()), strings.Repeat(`{"k":`, 31)+"{}"+strings.Repeat("}", 31))
	refused(t, inRows(32, value.Row()), api.ErrDeep)
	refused(t, inRows(32, value.Map()), api.ErrDeep)
	refused(t, inMaps(32, value.Map()), api.ErrDeep)
	refused(t, inMaps(32, value.Row()), api.ErrDeep)
	refused(t, value.Row(value.Whole(1), inRows(31, value.Row()), inRows(31, value.Row(value.Row()))), api.ErrDeep)
}

// R1: a list that is in itself lies too deep.
func TestInItself(t *testing.T) {
	l := []value.Value{{Kind: value.List}}
	l[0].List = l
	refused(t, l[0], api.ErrDeep)
	k := []value.Pair{pair("k", value.Value{Kind: value.Keys})}
	k[0].Value.Keys = k
	refused(t, k[0].Value, api.ErrDeep)
}

// mayNotBe are values that may not be, and Check's error of each.
func mayNotBe() map[api.Errno][]value.Value {
	null, long := value.Value{}, strings.Repeat("x", api.MaxText+1)
	l := map[api.Errno][]value.Value{
		api.ErrDeep: {inRows(33, null), inMaps(33, null), inTurns(33, null), inRows(33, value.Of("\xff"))},
		api.ErrText: {value.Of("\xff"), value.Of("é\x80"), value.Of("\xed\xa0\x80"), value.Map(pair("\xff", null)), value.Of(long + "\xff")},
		api.ErrLong: {
			value.Of(long), value.Of(strings.Repeat("é", 2048) + "x"), value.Map(pair(long, null)),
			value.Of(strings.Repeat("x", api.MaxFile-2)), value.Of(strings.Repeat("x", api.MaxFile)), value.Map(pair(strings.Repeat("x", 2*api.MaxFile), null)),
		},
		api.ErrTwice: {
			value.Map(pair("a", null), pair("a", null)), value.Map(pair("", null), pair("a", null), pair("", value.Whole(1))),
			value.Map(pair("a", value.Of("\xff")), pair("a", null)),
		},
	}
	for _, k := range []value.Kind{-1, 6, 7, 256, 1 << 32, 1<<32 + 3, math.MinInt, math.MaxInt} {
		l[api.ErrType] = append(l[api.ErrType], value.Value{Kind: k}, stuffed(k))
	}
	return l
}

// P9.1: each error of Check, wherever it shows, and ahead of ErrLong.
func TestMayNotBe(t *testing.T) {
	much := exactly(2 * api.MaxFile)
	for e, l := range mayNotBe() {
		for _, v := range l {
			refused(t, v, e)
			refused(t, value.Row(v), e)
			refused(t, value.Map(pair("a", v)), e)
			refused(t, value.Row(value.Whole(1), value.Map(pair("a", value.Row()), pair("b", v))), e)
			refused(t, value.Row(v, much), e)
			refused(t, value.Row(much, v), e)
			refused(t, value.Row(much, value.Map(pair("a", much), pair("b", v))), e)
			refused(t, value.Map(pair("a", v), pair("b", much)), e)
		}
	}
	refused(t, value.Row(much, value.Value{Kind: 6}, value.Of("\xff")), api.ErrType)
	refused(t, value.Row(much, value.Of("\xff"), value.Value{Kind: 6}), api.ErrText)
	refused(t, value.Row(value.Of("\xff"), much, inRows(32, value.Value{})), api.ErrDeep)
}

// exactly is a list of long texts, the text of which has so many bytes, 10 or more.
func exactly(n int) value.Value {
	const most = api.MaxText + len(`"",`)
	var l []value.Value
	n -= len("[]") - len(",")
	for ; n > 2*most; n -= most {
		l = append(l, value.Of(strings.Repeat("x", api.MaxText)))
	}
	return value.Row(append(l, value.Of(strings.Repeat("y", n/2-len(`"",`))), value.Of(strings.Repeat("z", n-n/2-len(`"",`))))...)
}

// filled holds that a value has a text of so many bytes, and that what is read of it is alike to the value.
func filled(t *testing.T, v value.Value, n int) {
	t.Helper()
	s, e := jprint.Print(v)
	if len(s) != n || e != api.OK {
		t.Errorf("Print(%s) has %d bytes, not %d, and %v", short(v), len(s), n, e)
		return
	}
	if back, m := json.Parse(s); m != (json.Mistake{}) || !back.Same(v) {
		t.Errorf("what is read of %s is %s and %v", short(s), short(back), m)
	}
}

// ends are values of each kind, under their texts: few, for those about the limit take long.
func ends() map[string]value.Value {
	return map[string]value.Value{
		`null`: {}, `true`: value.Yes(true), `false`: value.Yes(false), `0`: value.Whole(0), `-10`: value.Whole(-10), `""`: value.Of(""), `"\n"`: value.Of("\n"),
		`[]`: value.Row(), `{}`: value.Map(), `[[1]]`: inRows(2, value.Whole(1)), `{"a":{"":""}}`: value.Map(pair("a", value.Map(pair("", value.Of(""))))),
	}
}

// P9.1, P9.2: a text of 2^20 bytes, and of one more, whatever comes last in it.
func TestTheLongestText(t *testing.T) {
	for _, n := range []int{10000, 20000, 1<<20 - 1, 1 << 20} {
		filled(t, exactly(n), n)
	}
	for _, n := range []int{1<<20 + 1, 1<<20 + 2, 1<<20 + 1000, 2 << 20} {
		refused(t, exactly(n), api.ErrLong)
	}
	for s, v := range ends() {
		for _, around := range []struct {
			marks int
			put   func(filler value.Value) value.Value
		}{
			{len(`[,]`), func(x value.Value) value.Value { return value.Row(x, v) }},
			{len(`[,]`), func(x value.Value) value.Value { return value.Row(v, x) }},
			{len(`{"a":,"":}`), func(x value.Value) value.Value { return value.Map(pair("a", x), pair("", v)) }},
			{len(`{"":,"a":}`), func(x value.Value) value.Value { return value.Map(pair("", v), pair("a", x)) }},
			{len(`[[{"a":[,]}]]`), func(x value.Value) value.Value { return inRows(2, value.Map(pair("a", value.Row(x, v)))) }},
		} {
			room := 1<<20 - len(s) - around.marks
			filled(t, around.put(exactly(room)), 1<<20)
			refused(t, around.put(exactly(room+1)), api.ErrLong)
			refused(t, around.put(exactly(1<<20)), api.ErrLong)
		}
	}
}

// P9.1: a key with which a text has 2^20 bytes, and one more.
func TestTheLongestByAKey(t *testing.T) {
	for _, c := range []struct {
		key  string
		size int
	}{{"", 0}, {"x", 1}, {"\n", 2}, {"\x01", 6}, {"é", 2}, {strings.Repeat("k", 4096), 4096}, {strings.Repeat("\x1f", 4096), 6 * 4096}} {
		room := 1<<20 - c.size - len(`[,{"":0}]`)
		filled(t, value.Row(exactly(room), value.Map(pair(c.key, value.Whole(0)))), 1<<20)
		refused(t, value.Row(exactly(room+1), value.Map(pair(c.key, value.Whole(0)))), api.ErrLong)
		refused(t, value.Row(exactly(room), value.Map(pair(c.key+"k", value.Whole(0)))), api.ErrLong)
	}
}

// P9.1: texts that are too long by what closes lists and keys alone.
func TestTooLongByClosing(t *testing.T) {
	for _, n := range []int{1, 2, 3, 16, 31} {
		// The text has so many bytes when only what closes is left.
		for _, begun := range []int{1<<20 - n - 1, 1<<20 - n, 1<<20 - n + 1, 1 << 20} {
			rows, maps := exactly(begun+1-n), exactly(begun+1-len(`{"k":`)*n)
			if begun+1+n <= 1<<20 {
				filled(t, inRows(n, rows), begun+1+n)
				filled(t, inMaps(n, maps), begun+1+n)
			} else {
				refused(t, inRows(n, rows), api.ErrLong)
				refused(t, inMaps(n, maps), api.ErrLong)
			}
		}
		if t.Failed() {
			return
		}
	}
}

// many is a list of so many values.
func many(n int, v value.Value) value.Value {
	l := make([]value.Value, n)
	for i := range l {
		l[i] = v
	}
	return value.Row(l...)
}

// P9.1, P9.2: lists of many values, about the limit.
func TestManyValues(t *testing.T) {
	for s, v := range map[string]value.Value{`null`: {}, `false`: value.Yes(false), `0`: value.Whole(0), `"\u0001"`: value.Of("\x01"), `[]`: value.Row(), `{"a":[{}]}`: value.Map(pair("a", value.Row(value.Map())))} {
		// Behind each stands a comma, or what closes the list.
		n := (1<<20 - len("[")) / (len(s) + 1)
		filled(t, many(n, v), len("[")+n*(len(s)+1))
		refused(t, many(n+1, v), api.ErrLong)
	}
	ones := many(1<<19-1, value.Whole(1))
	filled(t, ones, 1<<20-1)
	ones.List[7] = value.Whole(10)
	filled(t, ones, 1<<20)
	ones.List[1<<18] = value.Whole(-1)
	refused(t, ones, api.ErrLong)
	refused(t, many(1<<19, value.Whole(1)), api.ErrLong)
}

// P9.1, P9.2: many keys, about the limit.
func TestManyKeys(t *testing.T) {
	var l []value.Pair
	size := len("{")
	for i := 0; ; i++ {
		key := strconv.FormatInt(int64(i), 36)
		more := len(key) + len(`"":1,`)
		if size+more > 1<<20 {
			break
		}
		l = append(l, pair(key, value.Whole(1)))
		size += more
	}
	filled(t, value.Map(l...), size)
	l[0].Key += strings.Repeat("?", 1<<20-size)
	filled(t, value.Map(l...), 1<<20)
	l[len(l)/2].Value = value.Whole(-1)
	refused(t, value.Map(l...), api.ErrLong)
}

// P9.1, P9.2: signs that grow when they are quoted.
func TestGrowing(t *testing.T) {
	for c, grown := range map[string]int{"\x00": 6, "\x1f": 6, "\n": 2, "\f": 2, `"`: 2, `\`: 2, "\x7f": 1, "é": 1, "x": 1} {
		s := strings.Repeat(c, api.MaxText/len(c))
		size := grown*len(s) + len(`"",`)
		n := (1<<20 - len("[")) / size
		filled(t, many(n, value.Of(s)), len("[")+n*size)
		refused(t, many(n+1, value.Of(s)), api.ErrLong)
	}
	// The text is as long as may be with a few of them, by what stands ahead of each.
	for c, grown := range map[string]int{"\x01": 6, "\t": 2, `"`: 2, `\`: 2} {
		room := 1<<20 - len(`[,""]`) - 100*grown
		filled(t, value.Row(exactly(room), value.Of(strings.Repeat(c, 100))), 1<<20)
		refused(t, value.Row(exactly(room), value.Of(strings.Repeat(c, 101))), api.ErrLong)
		refused(t, value.Row(exactly(room), value.Of("x"+strings.Repeat(c, 100))), api.ErrLong)
		filled(t, value.Row(exactly(room-1), value.Of("x"+strings.Repeat(c, 100))), 1<<20)
	}
}

// P9.1, R1: values that say far more than a text may.
func TestFarTooLong(t *testing.T) {
	v := value.Of(strings.Repeat("\x00", api.MaxText))
	for range 5 {
		v = many(8, v)
	}
	refused(t, v, api.ErrLong)
	refused(t, value.Map(pair("a", v), pair("b", v)), api.ErrLong)
	refused(t, many(2<<20, value.Value{}), api.ErrLong)
}
