package yprint_test

import (
	"fmt"
	"math"
	"math/big"
	"reflect"
	"strings"
	"testing"

	"bosun/api"
	"bosun/jprint"
	"bosun/utf"
	"bosun/value"
	"bosun/yaml"
	"bosun/yprint"
)

// Values that stand in many others.
var (
	null = value.Value{}
	one  = value.Whole(1)
	two  = value.Whole(2)
)

// pair is a key, and its value.
func pair(key string, v value.Value) value.Pair { return value.Pair{Key: key, Value: v} }

// keyed are keys: one, and its value.
func keyed(key string, v value.Value) value.Value { return value.Map(pair(key, v)) }

// lines are such lines, a line feed behind each.
func lines(l ...string) string { return strings.Join(l, "\n") + "\n" }

// in are such lines, so many blanks ahead of each.
func in(n int, s string) string {
	l := strings.SplitAfter(s, "\n")
	return strings.Repeat(" ", n) + strings.Join(l[:len(l)-1], strings.Repeat(" ", n))
}

// printed holds that a value has such lines, and that what is read of them is alike to the value (P12.2).
func printed(t *testing.T, v value.Value, want string) {
	t.Helper()
	s, e := yprint.Print(v)
	if s != want || e != api.OK {
		t.Errorf("Print(%s) is %s and %v, not %s", short(v), short(s), e, short(want))
		return
	}
	readBack(t, v, s)
}

// readBack holds that what is read of lines is alike to a value.
func readBack(t *testing.T, v value.Value, s string) {
	t.Helper()
	back, m := yaml.Parse(s)
	if m != (yaml.Mistake{}) || !back.Same(v) || !v.Same(back) {
		t.Errorf("what is read of %s is %s and %v", short(s), short(back), m)
	}
}

// refused holds that a value has no lines, for which error.
func refused(t *testing.T, v value.Value, want api.Errno) {
	t.Helper()
	if s, e := yprint.Print(v); s != "" || e != want {
		t.Errorf("Print(%s) is %s and %v, not none and %v", short(v), short(s), e, want)
	}
}

// short is how something is told where it may be long.
func short(x any) string {
	s := fmt.Sprintf("%+q", fmt.Sprint(x))
	if len(s) > 300 {
		s = fmt.Sprintf("%s.. (%d bytes)", s[:300], len(s))
	}
	return s
}

// P12.1: the chapter's example, and that of the whole document.
func TestExample(t *testing.T) {
	printed(t, keyed("a", value.Row(one, null)), "a:\n  - 1\n  - null\n")
}

// alone are values without parts, under their lines.
func alone() map[string]value.Value {
	return map[string]value.Value{
		`null`:                 null,
		`true`:                 value.Yes(true),
		`false`:                value.Yes(false),
		`0`:                    value.Whole(0),
		`1`:                    one,
		`-1`:                   value.Whole(-1),
		`10`:                   value.Whole(10),
		`9223372036854775807`:  value.Whole(math.MaxInt64),
		`-9223372036854775808`: value.Whole(math.MinInt64),
		`""`:                   value.Of(""),
		`" "`:                  value.Of(" "),
		`"-"`:                  value.Of("-"),
		`"- 1"`:                value.Of("- 1"),
		`"a"`:                  value.Of("a"),
		`"a: 1"`:               value.Of("a: 1"),
		`"a:"`:                 value.Of("a:"),
		`"null"`:               value.Of("null"),
		`"true"`:               value.Of("true"),
		`"1"`:                  value.Of("1"),
		`"[]"`:                 value.Of("[]"),
		`"{}"`:                 value.Of("{}"),
		`"# no remark"`:        value.Of("# no remark"),
		`"a # no remark"`:      value.Of("a # no remark"),
		`"nginx:1.27"`:         value.Of("nginx:1.27"),
		`[]`:                   value.Row(),
		`{}`:                   value.Map(),
	}
}

// P12.1, P12.2: each kind of value without parts, alone, and within lists and keys.
func TestEachKind(t *testing.T) {
	for s, v := range alone() {
		printed(t, v, lines(s))
		printed(t, value.Row(v), lines("- "+s))
		printed(t, value.Row(v, v), lines("- "+s, "- "+s))
		printed(t, value.Row(one, v, value.Row()), lines("- 1", "- "+s, "- []"))
		printed(t, keyed("x", v), lines("x: "+s))
		printed(t, keyed("", v), lines(`"": `+s))
		printed(t, value.Map(pair("y", v), pair("x", v), pair("", v)), lines("y: "+s, "x: "+s, `"": `+s))
		printed(t, value.Row(keyed("x", value.Row(v))), lines("-", "  x:", "    - "+s))
		printed(t, keyed("x", value.Row(keyed("x", v), v)), lines("x:", "  -", "    x: "+s, "  - "+s))
	}
}

// P12.1: no list and nil are one, as are no keys and nil.
func TestEmptyOrNil(t *testing.T) {
	for s, l := range map[string][]value.Value{
		"[]": {{Kind: value.List}, {Kind: value.List, List: []value.Value{}}},
		"{}": {{Kind: value.Keys}, {Kind: value.Keys, Keys: []value.Pair{}}},
	} {
		for _, v := range l {
			printed(t, v, lines(s))
			printed(t, value.Row(v, one), lines("- "+s, "- 1"))
			printed(t, value.Map(pair("a", v), pair("b", one)), lines("a: "+s, "b: 1"))
		}
	}
}

// parts are values with parts, under their lines.
func parts() map[string]value.Value {
	return map[string]value.Value{
		// Lists in lists.
		lines("-", "  - 1"):                                        value.Row(value.Row(one)),
		lines("-", "  - []"):                                       value.Row(value.Row(value.Row())),
		lines("-", "  - 1", "-", "  - 2"):                          value.Row(value.Row(one), value.Row(two)),
		lines("-", "  - 1", "  - 2"):                               value.Row(value.Row(one, two)),
		lines("-", "  - 1", "- 2"):                                 value.Row(value.Row(one), two),
		lines("- 1", "-", "  - 2"):                                 value.Row(one, value.Row(two)),
		lines("- []", "-", "  - []", "  - {}", "- {}"):             value.Row(value.Row(), value.Row(value.Row(), value.Map()), value.Map()),
		lines("-", "  -", "    - 1", "  - 2", "- null"):            value.Row(value.Row(value.Row(one), two), null),
		lines("- null", "-", "  - 2", "  -", "    - 1"):            value.Row(null, value.Row(two, value.Row(one))),
		lines("-", "  -", "    -", "      - 1", "-", "  - \"\""):   value.Row(value.Row(value.Row(value.Row(one))), value.Row(value.Of(""))),
		lines("-", "  -", "    - 1", "  -", "    - 2", "  - true"): value.Row(value.Row(value.Row(one), value.Row(two), value.Yes(true))),
		// Keys in lists.
		lines("-", "  a: 1"):                                value.Row(keyed("a", one)),
		lines("-", "  a: {}"):                               value.Row(keyed("a", value.Map())),
		lines("-", "  b: 1", "  a: 2"):                      value.Row(value.Map(pair("b", one), pair("a", two))),
		lines("-", "  a: 1", "-", "  a: 1"):                 value.Row(keyed("a", one), keyed("a", one)),
		lines("- {}", "-", "  a: 1", "- []"):                value.Row(value.Map(), keyed("a", one), value.Row()),
		lines("-", "  -", "    a: 1", "    \"\": 2", "- 3"): value.Row(value.Row(value.Map(pair("a", one), pair("", two))), value.Whole(3)),
		lines("-", "  a:", "    - 1", "  b: 2", "- 3"):      value.Row(value.Map(pair("a", value.Row(one)), pair("b", two)), value.Whole(3)),
		// Lists in keys.
		lines("a:", "  - 1"):                                   keyed("a", value.Row(one)),
		lines("a:", "  - []"):                                  keyed("a", value.Row(value.Row())),
		lines("a:", "  - 1", "  - 2", "b: 3"):                  value.Map(pair("a", value.Row(one, two)), pair("b", value.Whole(3))),
		lines("a: []", "b:", "  - 1", "c: {}"):                 value.Map(pair("a", value.Row()), pair("b", value.Row(one)), pair("c", value.Map())),
		lines(`"":`, "  - 1", `"null":`, "  - 2"):              value.Map(pair("", value.Row(one)), pair("null", value.Row(two))),
		lines("a:", "  -", "    - 1", "  -", "    - 2"):        keyed("a", value.Row(value.Row(one), value.Row(two))),
		lines("a:", "  -", "    b:", "      - {}", "  - \"\""): keyed("a", value.Row(keyed("b", value.Row(value.Map())), value.Of(""))),
		// Keys in keys.
		lines("a:", "  a: 1"):                                   keyed("a", keyed("a", one)),
		lines("a:", "  a: {}"):                                  keyed("a", keyed("a", value.Map())),
		lines("a:", "  b: 1", "b:", "  a: 1"):                   value.Map(pair("a", keyed("b", one)), pair("b", keyed("a", one))),
		lines("b: 1", "a:", "  B: 2", "  A: 3", "A: null"):      value.Map(pair("b", one), pair("a", value.Map(pair("B", two), pair("A", value.Whole(3)))), pair("A", null)),
		lines("a: {}", "b:", "  c: {}", "d: []"):                value.Map(pair("a", value.Map()), pair("b", keyed("c", value.Map())), pair("d", value.Row())),
		lines("a:", "  b:", "    c:", "      d: 1", "  e: 2"):   keyed("a", value.Map(pair("b", keyed("c", keyed("d", one))), pair("e", two))),
		lines(`" ":`, `  "1":`, `    "-":`, `      "a:": "x"`):  keyed(" ", keyed("1", keyed("-", keyed("a:", value.Of("x"))))),
		lines("a:", "  -", "    a:", "      -", "        a: 1"): keyed("a", value.Row(keyed("a", value.Row(keyed("a", one))))),
	}
}

// P12.1, P12.2: lists and keys in lists and keys: what stands in which line, and how far in.
func TestParts(t *testing.T) {
	for s, v := range parts() {
		printed(t, v, s)
		printed(t, value.Row(v), lines("-")+in(2, s))
		printed(t, value.Row(v, one, v), lines("-")+in(2, s)+lines("- 1", "-")+in(2, s))
		printed(t, keyed("x", v), lines("x:")+in(2, s))
		printed(t, value.Map(pair("y", v), pair("x", one), pair("1", v)), lines("y:")+in(2, s)+lines("x: 1", `"1":`)+in(2, s))
		printed(t, value.Row(value.Row(v), keyed("x", v)), lines("-", "  -")+in(4, s)+lines("-", "  x:")+in(4, s))
		printed(t, value.Map(pair("x", value.Row(v)), pair("y", keyed("x", v))), lines("x:", "  -")+in(4, s)+lines("y:", "  x:")+in(4, s))
	}
}

// P12.1: what a manifest looks like.
func TestManifest(t *testing.T) {
	printed(t, value.Map(
		pair("kind", value.Of("Pod")),
		pair("name", value.Of("web")),
		pair("labels", value.Map(pair("app.kubernetes.io/name", value.Of("web")), pair("on call", value.Yes(false)))),
		pair("containers", value.Row(
			value.Map(pair("name", value.Of("c")), pair("image", value.Of("nginx:1.27")), pair("args", value.Row(value.Of("-g"), value.Of("daemon off;")))),
			value.Map(pair("name", value.Of("d")), pair("cpu", value.Whole(100)), pair("env", value.Map()), pair("args", value.Row())),
		)),
		pair("none", null),
	), lines(
		`kind: "Pod"`,
		`name: "web"`,
		`labels:`,
		`  app.kubernetes.io/name: "web"`,
		`  "on call": false`,
		`containers:`,
		`  -`,
		`    name: "c"`,
		`    image: "nginx:1.27"`,
		`    args:`,
		`      - "-g"`,
		`      - "daemon off;"`,
		`  -`,
		`    name: "d"`,
		`    cpu: 100`,
		`    env: {}`,
		`    args: []`,
		`none: null`,
	))
}

// numbers are whole ones: those near 0, and about each end that a way of writing may have.
func numbers() []int64 {
	l := []int64{math.MaxInt64, math.MaxInt64 - 1, math.MinInt64, math.MinInt64 + 1}
	for n := int64(-1100); n <= 1100; n++ {
		l = append(l, n)
	}
	for ten := int64(1000); ten > 0 && ten <= 1e18; ten *= 10 {
		l = append(l, ten-1, ten, ten+1, 1-ten, -ten, -1-ten, 9*(ten/10), -9*(ten/10))
	}
	for bit := range 63 {
		two := int64(1) << bit
		l = append(l, two-1, two, two+1, 1-two, -two, -1-two)
	}
	return l
}

// P12.1, P12.2: whole numbers, as layer 9 writes them.
func TestNumbers(t *testing.T) {
	for _, n := range numbers() {
		s, v := jprint.Digits(n), value.Whole(n)
		if want := big.NewInt(n).String(); s != want {
			t.Errorf("layer 9 writes %s as %q", want, s)
		}
		printed(t, v, lines(s))
		printed(t, value.Row(v, v), lines("- "+s, "- "+s))
		printed(t, value.Map(pair(s, v), pair("a", v)), lines(`"`+s+`": `+s, "a: "+s))
	}
}

// quoted are texts, and how layer 6 quotes them.
func quoted() map[string]string {
	l := map[string]string{
		``: `""`, `"`: `"\""`, `\`: `"\\"`, `\\`: `"\\\\"`, `/`: `"/"`, `'`: `"'"`, `\"`: `"\\\""`, `\n`: `"\\n"`, `\u0041`: `"\\u0041"`, `"a" "b"`: `"\"a\" \"b\""`,
		"\b": `"\b"`, "\t": `"\t"`, "\n": `"\n"`, "\f": `"\f"`, "\r": `"\r"`, "\r\n": `"\r\n"`, "\x00": `"\u0000"`, "\v": `"\u000b"`, "\x1f": `"\u001f"`,
		"\x7f": "\"\x7f\"", "\u0080": "\"\u0080\"", "é": `"é"`, "\u07ff": "\"\u07ff\"", "\u0800": "\"\u0800\"", "€": `"€"`, "\u2028\u2029": "\"\u2028\u2029\"",
		"\ud7ff\ue000": "\"\ud7ff\ue000\"", "\ufeff": "\"\ufeff\"", "\ufffd": "\"\ufffd\"", "\uffff": "\"\uffff\"",
		"\U00010000": "\"\U00010000\"", "😀": `"😀"`, "\U0010ffff": "\"\U0010ffff\"",
		" # ": `" # "`, `" # `: `"\" # "`, `\" #`: `"\\\" #"`, `": 1`: `"\": 1"`, " a ": `" a "`, "a\nb": `"a\nb"`, "\n- 1": `"\n- 1"`, "a:\n  - 1\n": `"a:\n  - 1\n"`,
		"a\x01é\n€\\😀\"z": `"a\u0001é\n€\\😀\"z"`,
	}
	for c := range 128 {
		s := string(rune(c))
		switch {
		case strings.ContainsAny(s, "\"\\\b\f\n\r\t"):
		case c < 32:
			l[s] = fmt.Sprintf(`"\u%04x"`, c)
		default:
			l[s] = `"` + s + `"`
		}
	}
	return l
}

// P12.1, P12.2: texts are quoted, wherever they stand, as layer 6 does it.
func TestQuotedTexts(t *testing.T) {
	for s, q := range quoted() {
		if utf.Quote(s) != q {
			t.Errorf("layer 6 quotes %+q as %s", s, utf.Quote(s))
		}
		printed(t, value.Of(s), lines(q))
		printed(t, value.Of("a"+s+s), lines(`"a`+q[1:len(q)-1]+q[1:]))
		printed(t, value.Row(value.Of(s), value.Of(s)), lines("- "+q, "- "+q))
		printed(t, keyed("a", value.Of(s)), lines("a: "+q))
		printed(t, value.Row(keyed("a", value.Row(value.Of(s), one))), lines("-", "  a:", "    - "+q, "    - 1"))
	}
}

// P12.1, P12.2: texts, and quoted keys, of 4096 bytes.
func TestLongTexts(t *testing.T) {
	for _, c := range []struct{ s, q string }{{" ", " "}, {"\n", `\n`}, {"\x01", `\u0001`}, {`"`, `\"`}, {`\`, `\\`}, {"é", "é"}, {"€€ ", "€€ "}, {"😀", "😀"}} {
		n := api.MaxText / len(c.s)
		rest := strings.Repeat("x", api.MaxText-n*len(c.s))
		s, q := strings.Repeat(c.s, n)+rest, `"`+strings.Repeat(c.q, n)+rest+`"`
		printed(t, value.Of(s), lines(q))
		printed(t, value.Row(value.Of(s)), lines("- "+q))
		printed(t, keyed(s, value.Of(s)), lines(q+": "+q))
		printed(t, keyed(s, value.Row(one)), lines(q+":", "  - 1"))
		refused(t, value.Of(s+"x"), api.ErrLong)
		refused(t, keyed(s+"x", one), api.ErrLong)
	}
	s := strings.Repeat("x", api.MaxText)
	printed(t, value.Of(s), lines(`"`+s+`"`))
	refused(t, value.Of(s+"x"), api.ErrLong)
}

// keys are keys, and how they are written.
func keys() map[string]string {
	l := map[string]string{}
	for _, s := range []string{
		"a", "Z", "_", "__", "a1", "A9", "_1", "a.b", "a_b", "a/b", "a-b", "a-", "a.", "a/", "app.kubernetes.io/x", "nulls", "Null", "NULL", "True", "tru", "falsey", "False",
		"_null", "true_", "yes", "no", "a--b", strings.Repeat("k", 4096), "_" + strings.Repeat("-", 4095), "n" + strings.Repeat("./_-9", 819),
	} {
		l[s] = s
	}
	for _, s := range []string{
		"", "null", "true", "false", "1", "0", "9a", "-", "-a", "-1", "- a", "a:", ":", ":a", "a:b", "a: b", "a: 1", " ", " a", "a ", "a b", ".", ".a", "/", "/a", "a+b", "a@b", "@a", "+a",
		"é", "aé", "€", "a€", "😀", "a😀", "#", "# a", "a#", "a #", "a # b", "[]", "{}", "[", "{a", "a,b", "'a'", "a'", "~", "a~b", "*a", "&a", "!a", "%a", "|", ">", "a=b", "a?", "(a)",
		" null", "null ", "\x7f", strings.Repeat(" ", 4096), strings.Repeat("9", 4096), strings.Repeat("é", 2048), "k" + strings.Repeat("😀", 1023) + "€",
	} {
		l[s] = `"` + s + `"`
	}
	for s, q := range map[string]string{
		`"`: `"\""`, `"a"`: `"\"a\""`, `a"`: `"a\""`, `\`: `"\\"`, `a\`: `"a\\"`, `\"`: `"\\\""`, "\n": `"\n"`, "a\n": `"a\n"`, "\na": `"\na"`, "a:\n": `"a:\n"`, "\r": `"\r"`,
		"\t": `"\t"`, "a\tb": `"a\tb"`, "\x00": `"\u0000"`, "a\x00": `"a\u0000"`, "\x1f": `"\u001f"`, "\b\f": `"\b\f"`,
	} {
		l[s] = q
	}
	return l
}

// P12.1, P12.2: keys are plain where layer 11 says that they may be, else quoted.
func TestKeys(t *testing.T) {
	for s, q := range keys() {
		if yaml.Key(s) != (s == q) {
			t.Errorf("layer 11 says %v of the key %s", yaml.Key(s), short(s))
		}
		keyIs(t, s, q)
	}
}

// keyIs holds that a key is written so, whatever its value, and wherever it stands.
func keyIs(t *testing.T, s, q string) {
	t.Helper()
	printed(t, keyed(s, null), lines(q+": null"))
	printed(t, keyed(s, value.Of("x")), lines(q+`: "x"`))
	printed(t, keyed(s, value.Row()), lines(q+": []"))
	printed(t, keyed(s, value.Map()), lines(q+": {}"))
	printed(t, keyed(s, value.Row(one)), lines(q+":", "  - 1"))
	printed(t, keyed(s, keyed(s, one)), lines(q+":", "  "+q+": 1"))
	printed(t, value.Map(pair("first", one), pair(s, keyed(s, one)), pair("last", one)), lines("first: 1", q+":", "  "+q+": 1", "last: 1"))
	printed(t, value.Row(keyed(s, value.Row(keyed(s, value.Of("x"))))), lines("-", "  "+q+":", "    -", "      "+q+`: "x"`))
}

// P12.1, P12.2: keys of each byte, alone, ahead of a letter and behind one, and of two of those that count.
func TestKeysOfEachByte(t *testing.T) {
	const digits, letters = "0123456789", "abcdefghijklmnopqrstuvwxyzABCDEFGHIJKLMNOPQRSTUVWXYZ_"
	for c := range 128 {
		s := string(rune(c))
		q := utf.Quote(s)
		q = q[1 : len(q)-1]
		first := strings.Contains(letters, s)
		behind := first || strings.Contains(digits+"._/-", s)
		for key, x := range map[string]struct {
			inside string
			plain  bool
		}{s: {q, first}, s + "a": {q + "a", first}, "a" + s: {"a" + q, behind}, "a" + s + "a": {"a" + q + "a", behind}} {
			if x.plain {
				printed(t, keyed(key, one), lines(key+": 1"))
			} else {
				printed(t, keyed(key, one), lines(`"`+x.inside+`": 1`))
			}
		}
	}
}

// P12.1, P12.2: keys stand in their order, whatever it is.
func TestOrderOfKeys(t *testing.T) {
	l := []string{"a", "b", "A", "1", "", "é", "null", "-", "z z"}
	for turn := range l {
		var pairs []value.Pair
		want := ""
		for i := range l {
			k := l[(i*2+turn)%len(l)]
			q := k
			if !yaml.Key(k) {
				q = `"` + k + `"`
			}
			pairs = append(pairs, pair(k, value.Whole(int64(i))))
			want += fmt.Sprintf("%s: %d\n", q, i)
		}
		printed(t, value.Map(pairs...), want)
		printed(t, value.Row(value.Map(pairs...)), "-\n"+in(2, want))
	}
}

// stuffed is a value of a Kind in which all is set, with what is wrong, deep and plenty where it plays a part.
func stuffed(k value.Kind) value.Value {
	deep := value.Value{}
	for range 40 {
		deep = value.Row(deep)
	}
	return value.Value{
		Kind: k, Flag: true, Int: 7, Text: "\xff" + strings.Repeat("x", api.MaxFile),
		List: []value.Value{deep, {Kind: 9}},
		Keys: []value.Pair{pair("\xff", value.Of("\xff")), pair("\xff", deep)},
	}
}

// twin is a value that is alike, of which all is set that plays no part.
func twin(v value.Value) value.Value {
	w := stuffed(v.Kind)
	switch v.Kind {
	case value.Flag:
		w.Flag = v.Flag
	case value.Int:
		w.Int = v.Int
	case value.Text:
		w.Text = v.Text
	case value.List:
		w.List = nil
		for _, x := range v.List {
			w.List = append(w.List, twin(x))
		}
	case value.Keys:
		w.Keys = nil
		for _, p := range v.Keys {
			w.Keys = append(w.Keys, pair(p.Key, twin(p.Value)))
		}
	}
	return w
}

// P12.1, P12.2: what plays no part in a Kind counts for nothing.
func TestWhatPlaysNoPart(t *testing.T) {
	for s, v := range alone() {
		printed(t, twin(v), lines(s))
		printed(t, value.Row(twin(v), v), lines("- "+s, "- "+s))
		printed(t, keyed("x", twin(v)), lines("x: "+s))
	}
	for s, v := range parts() {
		printed(t, twin(v), s)
		printed(t, value.Row(twin(v)), lines("-")+in(2, s))
		printed(t, keyed("x", twin(v)), lines("x:")+in(2, s))
	}
}

// unlike are values that may be, no two of which are alike, but for a few.
func unlike() []value.Value {
	var l []value.Value
	for _, v := range alone() {
		l = append(l, v, value.Row(v), keyed("a", v))
	}
	for _, v := range parts() {
		l = append(l, v)
	}
	for s := range quoted() {
		l = append(l, value.Of("x"+s), keyed("x"+s, null), value.Of(s), keyed(s, null))
	}
	for s := range keys() {
		l = append(l, keyed(s, one), keyed("a", keyed(s, one)))
	}
	return append(l,
		value.Of("0"), value.Of("-1"), value.Of("false"), value.Of(`""`), value.Of("- null"), value.Of("a: null"), value.Of("- 1\n- 2"), value.Of("- 1\n"),
		value.Row(one, two), value.Row(two, one), value.Row(value.Whole(12)), value.Row(value.Of("1 2")), value.Row(value.Of("1"), value.Of("2")),
		value.Row(value.Of("1\"\n- \"2")), value.Row(null, null), value.Row(value.Row(one, two)), value.Row(value.Row(), one, two), value.Row(one, two, value.Row()),
		value.Row(value.Of("a: 1")), value.Row(value.Of("a:"), one), value.Row(value.Of("-"), one), value.Row(value.Of("- 1")),
		keyed("b", one), keyed("a", two), keyed("a", value.Of("1")), keyed("a", value.Of("b: 1")), keyed("a: b", one), keyed("a", value.Of("- 1")),
		value.Map(pair("a", one), pair("b", two)), value.Map(pair("b", two), pair("a", one)), value.Map(pair("a", two), pair("b", one)),
		keyed("a", keyed("b", one)), value.Map(pair("a", null), pair("b", one)), value.Map(pair("a", value.Map()), pair("b", one)), keyed("a: 1\nb", two),
		keyed("a", value.Of("1\nb: 2")), value.Row(keyed("a", one), keyed("b", two)), value.Row(value.Map(pair("a", one), pair("b", two))),
		value.Row(value.Of("a"), one, value.Of("b"), two), value.Row(keyed("a", one), null), value.Row(null, keyed("a", one)),
	)
}

// P12.2: the lines of values that aren't alike are unlike, those of alike ones are alike.
func TestUnlikeLines(t *testing.T) {
	l := unlike()
	texts := make([]string, len(l))
	for i, v := range l {
		s, e := yprint.Print(v)
		if e != api.OK {
			t.Fatalf("Print(%s) is %v", short(v), e)
		}
		texts[i] = s
	}
	for i, v := range l {
		for j, w := range l {
			if v.Same(w) != (texts[i] == texts[j]) {
				t.Errorf("the lines of %s and of %s are %s and %s", short(v), short(w), short(texts[i]), short(texts[j]))
			}
		}
	}
}

// P12.1, R3, R5: what is handed in isn't changed, nor is the room behind its ends, and each time the answer is one.
func TestNothingIsChanged(t *testing.T) {
	build := func() value.Value {
		inner := []value.Value{one, value.Of("é\n"), value.Of("behind"), value.Of("it")}
		keys := []value.Pair{pair("b", value.Value{Kind: value.List, List: inner[:2]}), pair("a b", value.Yes(true)), pair("behind", value.Whole(7))}
		outer := []value.Value{{Kind: value.Keys, Keys: keys[:2]}, value.Map(), value.Row(value.Whole(8))}
		return value.Value{Kind: value.List, List: outer[:2]}
	}
	v, untouched := build(), build()
	for range 3 {
		printed(t, v, lines("-", "  b:", "    - 1", `    - "é\n"`, `  "a b": true`, "- {}"))
	}
	for i, x := range []value.Value{v, untouched} {
		outer := x.List[:cap(x.List)]
		keys := outer[0].Keys[:cap(outer[0].Keys)]
		inner := keys[0].Value.List[:cap(keys[0].Value.List)]
		if i == 0 && (len(outer) != 3 || len(keys) != 3 || len(inner) != 4) {
			t.Fatal("there is no room to look at")
		}
		outer[0].Keys, keys[0].Value.List = keys, inner
	}
	v.List, untouched.List = v.List[:3], untouched.List[:3]
	if !reflect.DeepEqual(v, untouched) {
		t.Errorf("Print changed what was handed in to %v", v)
	}
}
