package yprint_test

import (
	"math"
	"strconv"
	"strings"
	"testing"

	"bosun/api"
	"bosun/value"
	"bosun/yaml"
	"bosun/yprint"
)

// way is how a value stands in a list, or in keys, and what lines it has then, of those that it has alone.
type way struct {
	around func(v value.Value) value.Value
	lines  func(s string, hasParts bool) string
}

// behind is a value's lines behind a dash or a key.
func behind(ahead, s string, hasParts bool) string {
	if hasParts {
		return ahead + "\n" + in(2, s)
	}
	return ahead + " " + s
}

// ways are a few of them.
func ways() []way {
	return []way{
		{func(v value.Value) value.Value { return value.Row(v) }, func(s string, p bool) string { return behind("-", s, p) }},
		{func(v value.Value) value.Value { return keyed("k", v) }, func(s string, p bool) string { return behind("k:", s, p) }},
		{func(v value.Value) value.Value { return keyed("k k", v) }, func(s string, p bool) string { return behind(`"k k":`, s, p) }},
		{func(v value.Value) value.Value { return value.Row(one, v, two) }, func(s string, p bool) string { return "- 1\n" + behind("-", s, p) + "- 2\n" }},
		{
			func(v value.Value) value.Value {
				return value.Map(pair("j", null), pair("k", v), pair("l", value.Of("")))
			},
			func(s string, p bool) string { return "j: null\n" + behind("k:", s, p) + "l: \"\"\n" },
		},
	}
}

// inside is a value so deep in such lists or keys, and its lines.
func inside(w []way, n int, v value.Value, s string) (value.Value, string) {
	hasParts := len(v.List)+len(v.Keys) > 0
	for i := range n {
		x := w[i%len(w)]
		v, s, hasParts = x.around(v), x.lines(s, hasParts), true
	}
	return v, s
}

// P12.1, P12.2: lists and keys within each other, up to 32, and one more.
func TestDeep(t *testing.T) {
	all := ways()
	sets := [][]way{all, {all[0], all[1]}, {all[3], all[4]}, {all[4], all[0], all[2]}}
	for _, w := range all {
		sets = append(sets, []way{w})
	}
	for _, set := range sets {
		for s, v := range map[string]value.Value{"null\n": null, "-7\n": value.Whole(-7), "\"x\"\n": value.Of("x"), "true\n": value.Yes(true)} {
			for n := range 33 {
				x, want := inside(set, n, v, s)
				printed(t, x, want)
			}
			for _, n := range []int{33, 34, 50, 1000} {
				x := v
				for i := range n {
					x = set[i%len(set)].around(x)
				}
				refused(t, x, api.ErrDeep)
			}
		}
		for s, v := range map[string]value.Value{"[]\n": value.Row(), "{}\n": value.Map(), "- 1\n": value.Row(one), "a: 1\n": keyed("a", one)} {
			for n := range 32 {
				x, want := inside(set, n, v, s)
				printed(t, x, want)
			}
			x, _ := inside(set, 32, v, s)
			refused(t, x, api.ErrDeep)
		}
	}
	refused(t, value.Row(one, inRows(31, value.Row()), inRows(31, value.Row(value.Row()))), api.ErrDeep)
}

// P12.1: the indents, 2 more each, up to 62.
func TestIndents(t *testing.T) {
	v, want := null, ""
	for i := 31; i >= 0; i-- {
		if i == 31 {
			v, want = value.Row(null), strings.Repeat(" ", 62)+"- null\n"
			continue
		}
		v, want = value.Row(v, one), strings.Repeat(" ", 2*i)+"-\n"+want+strings.Repeat(" ", 2*i)+"- 1\n"
	}
	printed(t, v, want)
}

// inRows is a value in so many lists.
func inRows(n int, v value.Value) value.Value {
	for range n {
		v = value.Row(v)
	}
	return v
}

// inMaps is a value in so many keys.
func inMaps(n int, v value.Value) value.Value {
	for range n {
		v = keyed("k", v)
	}
	return v
}

// R1: a list that is in itself lies too deep, and so do keys.
func TestInItself(t *testing.T) {
	l := []value.Value{{Kind: value.List}}
	l[0].List = l
	refused(t, l[0], api.ErrDeep)
	p := []value.Pair{pair("a", value.Value{Kind: value.Keys})}
	p[0].Value.Keys = p
	refused(t, p[0].Value, api.ErrDeep)
}

// mayNotBe are values that may not be, by Check's error.
func mayNotBe() map[api.Errno][]value.Value {
	long := strings.Repeat("x", api.MaxText+1)
	l := map[api.Errno][]value.Value{
		api.ErrDeep: {inRows(33, null), inMaps(33, null), inRows(33, value.Of("\xff")), inMaps(32, value.Row())},
		api.ErrText: {value.Of("\xff"), value.Of("é\x80"), value.Of("\xed\xa0\x80"), keyed("\xff", null), keyed("a\xc3", one), value.Of(long + "\xff")},
		api.ErrLong: {
			value.Of(long), value.Of(strings.Repeat("é", 2048) + "x"), keyed(long, null), keyed("k"+strings.Repeat(" ", 4096), one),
			value.Of(strings.Repeat("x", api.MaxFile)), keyed(strings.Repeat("x", 2*api.MaxFile), null),
		},
		api.ErrTwice: {
			value.Map(pair("a", null), pair("a", null)), value.Map(pair("", null), pair("a", null), pair("", one)), value.Map(pair("a", value.Of("\xff")), pair("a", null)),
		},
	}
	for _, k := range []value.Kind{-1, 6, 7, 256, 1 << 32, 1<<32 + 3, math.MinInt, math.MaxInt} {
		l[api.ErrType] = append(l[api.ErrType], value.Value{Kind: k}, stuffed(k))
	}
	return l
}

// P12.1: each error of Check, wherever it shows, and ahead of ErrLong.
func TestMayNotBe(t *testing.T) {
	much := exactly(2*api.MaxFile, 0)
	for e, l := range mayNotBe() {
		for _, v := range l {
			refused(t, v, e)
			refused(t, value.Row(v), e)
			refused(t, keyed("a", v), e)
			refused(t, value.Row(one, value.Map(pair("a", value.Row()), pair("b", v))), e)
			refused(t, value.Row(v, much), e)
			refused(t, value.Row(much, v), e)
			refused(t, value.Row(much, value.Map(pair("a", much), pair("b", v))), e)
			refused(t, value.Map(pair("a", v), pair("b", much)), e)
		}
	}
	refused(t, value.Row(much, value.Value{Kind: 6}, value.Of("\xff")), api.ErrType)
	refused(t, value.Row(much, value.Of("\xff"), value.Value{Kind: 6}), api.ErrText)
	refused(t, value.Row(value.Of("\xff"), much, inRows(32, null)), api.ErrDeep)
}

// exactly is a list of long texts, the lines of which have so many bytes, 20 or more beside two lines' indents, at an
// indent.
func exactly(n, indent int) value.Value {
	frame := indent + len("- \"\"\n")
	most := frame + api.MaxText
	var l []value.Value
	for ; n > 2*most; n -= most {
		l = append(l, value.Of(strings.Repeat("x", api.MaxText)))
	}
	return value.Row(append(l, value.Of(strings.Repeat("y", n/2-frame)), value.Of(strings.Repeat("z", n-n/2-frame)))...)
}

// filled holds that a value has lines of so many bytes, and that what is read of them is alike to the value.
func filled(t *testing.T, v value.Value, n int) {
	t.Helper()
	s, e := yprint.Print(v)
	if len(s) != n || e != api.OK {
		t.Errorf("Print(%s) has %d bytes, not %d, and %v", short(v), len(s), n, e)
		return
	}
	readBack(t, v, s)
}

// P12.1, P12.2: lines of 2^20 bytes, and of one more, whatever comes last in them.
func TestTheLongestLines(t *testing.T) {
	for _, n := range []int{10000, 20000, 1<<20 - 1, 1 << 20} {
		filled(t, exactly(n, 0), n)
	}
	for _, n := range []int{1<<20 + 1, 1<<20 + 2, 1<<20 + 1000, 2 << 20} {
		refused(t, exactly(n, 0), api.ErrLong)
	}
	for s, v := range map[string]value.Value{
		"null": null, "false": value.Yes(false), "-10": value.Whole(-10), `"\n"`: value.Of("\n"), "[]": value.Row(), "{}": value.Map(),
	} {
		for _, x := range []struct {
			others string
			indent int
			put    func(filler value.Value) value.Value
		}{
			{"-\n- " + s + "\n", 2, func(x value.Value) value.Value { return value.Row(x, v) }},
			{"-\n- " + s + "\n", 2, func(x value.Value) value.Value { return value.Row(v, x) }},
			{"- " + s + "\n", 0, func(x value.Value) value.Value { return value.Row(append([]value.Value{v}, x.List...)...) }},
			{"- " + s + "\n", 0, func(x value.Value) value.Value { return value.Row(append(x.List, v)...) }},
			{"a:\n\"\": " + s + "\n", 2, func(x value.Value) value.Value { return value.Map(pair("a", x), pair("", v)) }},
			{"a:\nb: " + s + "\n", 2, func(x value.Value) value.Value { return value.Map(pair("b", v), pair("a", x)) }},
			{"-\n  -\n    a:\n      -\n      - " + s + "\n", 8, func(x value.Value) value.Value { return inRows(2, keyed("a", value.Row(x, v))) }},
			{"-\n-\n  a:\n    b: " + s + "\n", 2, func(x value.Value) value.Value { return value.Row(x, keyed("a", keyed("b", v))) }},
		} {
			room := 1<<20 - len(x.others)
			filled(t, x.put(exactly(room, x.indent)), 1<<20)
			refused(t, x.put(exactly(room+1, x.indent)), api.ErrLong)
			refused(t, x.put(exactly(1<<20, x.indent)), api.ErrLong)
		}
	}
}

// P12.1: lines that are too long by each byte of the last ones: dashes and keys alone in their lines, blanks, line feeds.
func TestTooLongByLittle(t *testing.T) {
	for s, v := range map[string]value.Value{
		"-\n  - 1\n":             value.Row(value.Row(one)),
		"-\n  -\n    - 1\n- 1\n": value.Row(inRows(2, one), one),
		"-\n  a: {}\n  b: []\n":  value.Row(value.Map(pair("a", value.Map()), pair("b", value.Row()))),
		"-\n  \"\":\n    b: 1\n": value.Row(keyed("", keyed("b", one))),
	} {
		printed(t, v, s)
		for over := range len(s) + 3 {
			x := value.Row(append(exactly(1<<20-len(s)+over, 0).List, v.List...)...)
			if over == 0 {
				filled(t, x, 1<<20)
			} else {
				refused(t, x, api.ErrLong)
			}
		}
	}
}

// P12.1: a key with which lines have 2^20 bytes, and one more.
func TestTheLongestByAKey(t *testing.T) {
	for _, c := range []struct {
		key  string
		size int
	}{
		{"", 2}, {"x", 1}, {"null", 6}, {"1", 3}, {"\n", 4}, {"\x01", 8}, {"é", 4}, {"x ", 4}, {strings.Repeat("k", 4095), 4095},
		{strings.Repeat(" ", 4095), 4097}, {strings.Repeat("\x1f", 4095), 6*4095 + 2},
	} {
		for _, x := range []struct {
			others string
			v      value.Value
		}{{"-\n  : 0\n", value.Whole(0)}, {"-\n  :\n    - 1\n", value.Row(one)}, {"-\n  :\n    a: {}\n", keyed("a", value.Map())}} {
			room := 1<<20 - len(x.others) - c.size
			put := func(n int, key string) value.Value { return value.Row(append(exactly(n, 0).List, keyed(key, x.v))...) }
			filled(t, put(room, c.key), 1<<20)
			refused(t, put(room+1, c.key), api.ErrLong)
			if yaml.Key(c.key) == yaml.Key(c.key+"k") {
				refused(t, put(room, c.key+"k"), api.ErrLong)
			}
		}
	}
}

// many is a list of so many values.
func many(n int, v value.Value) value.Value {
	l := make([]value.Value, n)
	for i := range l {
		l[i] = v
	}
	return value.Row(l...)
}

// P12.1, P12.2: lists of many values, about the limit.
func TestManyValues(t *testing.T) {
	for s, v := range map[string]value.Value{
		"- null\n": null, "- false\n": value.Yes(false), "- 0\n": value.Whole(0), "- \"\\u0001\"\n": value.Of("\x01"), "- []\n": value.Row(), "- {}\n": value.Map(),
		"-\n  - 1\n": value.Row(one), "-\n  a:\n    - {}\n": keyed("a", value.Row(value.Map())), "-\n  a: 1\n  b:\n    c: 2\n": value.Map(pair("a", one), pair("b", keyed("c", two))),
	} {
		n := 1 << 20 / len(s)
		filled(t, many(n, v), n*len(s))
		refused(t, many(n+1, v), api.ErrLong)
	}
	ones := many(1<<18, one)
	filled(t, ones, 1<<20)
	ones.List[7] = value.Whole(10)
	refused(t, ones, api.ErrLong)
	ones.List[7] = value.Whole(9)
	filled(t, ones, 1<<20)
	ones.List[1<<17] = value.Whole(-1)
	refused(t, ones, api.ErrLong)
	refused(t, many(1<<18+1, one), api.ErrLong)
}

// P12.1, P12.2: many keys, about the limit.
func TestManyKeys(t *testing.T) {
	var l []value.Pair
	size := 0
	for i := 0; ; i++ {
		key := "k" + strconv.FormatInt(int64(i), 36)
		more := len(key) + len(": 1\n")
		if size+more > 1<<20 {
			break
		}
		l = append(l, pair(key, one))
		size += more
	}
	filled(t, value.Map(l...), size)
	l[0].Key += strings.Repeat("z", 1<<20-size)
	filled(t, value.Map(l...), 1<<20)
	l[len(l)/2].Value = value.Whole(-1)
	refused(t, value.Map(l...), api.ErrLong)
	l[len(l)/2].Value = one
	filled(t, value.Map(l...), 1<<20)
	l[len(l)/2].Key += "z"
	refused(t, value.Map(l...), api.ErrLong)
}

// P12.1, P12.2: signs that grow when they are quoted.
func TestGrowing(t *testing.T) {
	for c, grown := range map[string]int{"\x00": 6, "\x1f": 6, "\n": 2, "\f": 2, `"`: 2, `\`: 2, "\x7f": 1, "é": 1, "x": 1} {
		s := strings.Repeat(c, api.MaxText/len(c))
		size := grown*len(s) + len("- \"\"\n")
		n := 1 << 20 / size
		filled(t, many(n, value.Of(s)), n*size)
		refused(t, many(n+1, value.Of(s)), api.ErrLong)
	}
	// The lines are as long as may be with a few of them, by what stands ahead of each.
	for c, grown := range map[string]int{"\x01": 6, "\t": 2, `"`: 2, `\`: 2} {
		room := 1<<20 - len("- \"\"\n") - 100*grown
		put := func(n int, s string) value.Value { return value.Row(append(exactly(n, 0).List, value.Of(s))...) }
		filled(t, put(room, strings.Repeat(c, 100)), 1<<20)
		refused(t, put(room, strings.Repeat(c, 101)), api.ErrLong)
		refused(t, put(room, "x"+strings.Repeat(c, 100)), api.ErrLong)
		filled(t, put(room-1, "x"+strings.Repeat(c, 100)), 1<<20)
	}
}

// P12.1: lines that are too long by their indents, though all else would be much shorter.
func TestTooLongByIndents(t *testing.T) {
	// Each value's line has 62 blanks, and 4 bytes; ahead of them all stand the lines of 31 dashes.
	ahead := 0
	for i := range 31 {
		ahead += 2*i + len("-\n")
	}
	n := (1<<20 - ahead) / 66
	filled(t, inRows(31, many(n, one)), ahead+66*n)
	refused(t, inRows(31, many(n+1, one)), api.ErrLong)
	filled(t, many(n+1, one), 4*(n+1))
}

// P12.1, R1: values that say far more than lines may.
func TestFarTooLong(t *testing.T) {
	v := value.Of(strings.Repeat("\x00", api.MaxText))
	for range 5 {
		v = many(8, v)
	}
	refused(t, v, api.ErrLong)
	refused(t, value.Map(pair("a", v), pair("b", v)), api.ErrLong)
	refused(t, many(2<<20, null), api.ErrLong)
}
