package jprint_test

import (
	"fmt"
	"math"
	"math/big"
	"reflect"
	"strings"
	"testing"

	"bosun/api"
	"bosun/jlex"
	"bosun/jprint"
	"bosun/json"
	"bosun/value"
)

// pair is a key, and its value.
func pair(key string, v value.Value) value.Pair { return value.Pair{Key: key, Value: v} }

// printed holds that a value has a text, and that what is read of it is alike to the value (P9.2).
func printed(t *testing.T, v value.Value, want string) {
	t.Helper()
	s, e := jprint.Print(v)
	if s != want || e != api.OK {
		t.Errorf("Print(%s) is %s and %v, not %s", short(v), short(s), e, short(want))
		return
	}
	back, m := json.Parse(s)
	if m != (json.Mistake{}) || !back.Same(v) || !v.Same(back) {
		t.Errorf("what is read of %s is %s and %v", short(s), short(back), m)
	}
}

// refused holds that a value has no text, for which error.
func refused(t *testing.T, v value.Value, want api.Errno) {
	t.Helper()
	if s, e := jprint.Print(v); s != "" || e != want {
		t.Errorf("Print(%s) is %s and %v, not none and %v", short(v), short(s), e, want)
	}
}

// short is how something is told where it may be long.
func short(x any) string {
	s := fmt.Sprintf("%+q", fmt.Sprint(x))
	if len(s) > 300 {
		s = fmt.Sprintf("%s.. (%d bytes)", s[:300], len(s))
	}
	return s
}

// P9.1: the chapter's example.
func TestExample(t *testing.T) {
	printed(t, value.Map(pair("a", value.Row(value.Whole(1), value.Value{}))), `{"a":[1,null]}`)
}

// texts are values of each kind, under their texts.
func texts() map[string]value.Value {
	null, one := value.Value{}, value.Whole(1)
	return map[string]value.Value{
		`null`:                          null,
		`true`:                          value.Yes(true),
		`false`:                         value.Yes(false),
		`0`:                             value.Whole(0),
		`1`:                             one,
		`-1`:                            value.Whole(-1),
		`9`:                             value.Whole(9),
		`10`:                            value.Whole(10),
		`-10`:                           value.Whole(-10),
		`9223372036854775807`:           value.Whole(math.MaxInt64),
		`-9223372036854775808`:          value.Whole(math.MinInt64),
		`""`:                            value.Of(""),
		`" "`:                           value.Of(" "),
		`"null"`:                        value.Of("null"),
		`"true"`:                        value.Of("true"),
		`"1"`:                           value.Of("1"),
		`"[1,2]"`:                       value.Of("[1,2]"),
		`"{\"a\":1}"`:                   value.Of(`{"a":1}`),
		`"two words, and: more"`:        value.Of("two words, and: more"),
		`[]`:                            value.Row(),
		`{}`:                            value.Map(),
		`[null]`:                        value.Row(null),
		`[""]`:                          value.Row(value.Of("")),
		`[[]]`:                          value.Row(value.Row()),
		`[{}]`:                          value.Row(value.Map()),
		`[[],[]]`:                       value.Row(value.Row(), value.Row()),
		`[{},[],{}]`:                    value.Row(value.Map(), value.Row(), value.Map()),
		`[1,1]`:                         value.Row(one, one),
		`[null,false,true,-1,"1",[1]]`:  value.Row(null, value.Yes(false), value.Yes(true), value.Whole(-1), value.Of("1"), value.Row(one)),
		`[[[1],2],3]`:                   value.Row(value.Row(value.Row(one), value.Whole(2)), value.Whole(3)),
		`{"a":null}`:                    value.Map(pair("a", null)),
		`{"":""}`:                       value.Map(pair("", value.Of(""))),
		`{"":{"":[]}}`:                  value.Map(pair("", value.Map(pair("", value.Row())))),
		`{"a":{},"b":[]}`:               value.Map(pair("a", value.Map()), pair("b", value.Row())),
		`{"b":1,"a":2,"A":3}`:           value.Map(pair("b", one), pair("a", value.Whole(2)), pair("A", value.Whole(3))),
		`{"a":"a","b":"a"}`:             value.Map(pair("a", value.Of("a")), pair("b", value.Of("a"))),
		`{"a":{"a":{"a":true}}}`:        value.Map(pair("a", value.Map(pair("a", value.Map(pair("a", value.Yes(true))))))),
		`{"a":[{"b":1},{"b":1}],"b":0}`: value.Map(pair("a", value.Row(value.Map(pair("b", one)), value.Map(pair("b", one)))), pair("b", value.Whole(0))),
		`{"null":null,"1":1," ":" "}`:   value.Map(pair("null", null), pair("1", one), pair(" ", value.Of(" "))),
		`{"{\"a\":1}":["]"]}`:           value.Map(pair(`{"a":1}`, value.Row(value.Of("]")))),
	}
}

// P9.1, P9.2: each kind of value, alone, and within lists and keys.
func TestEachKind(t *testing.T) {
	for s, v := range texts() {
		printed(t, v, s)
		printed(t, value.Row(v), "["+s+"]")
		printed(t, value.Row(v, v), "["+s+","+s+"]")
		printed(t, value.Row(value.Whole(1), v, value.Row()), "[1,"+s+",[]]")
		printed(t, value.Map(pair("x", v)), `{"x":`+s+`}`)
		printed(t, value.Map(pair("y", v), pair("x", v), pair("", v)), `{"y":`+s+`,"x":`+s+`,"":`+s+`}`)
		printed(t, value.Row(value.Map(pair("x", value.Row(v)))), `[{"x":[`+s+`]}]`)
		printed(t, value.Map(pair("x", value.Row(value.Map(pair("x", v)), v))), `{"x":[{"x":`+s+`},`+s+`]}`)
	}
}

// P9.1: no list and nil are one, as are no keys and nil.
func TestEmptyOrNil(t *testing.T) {
	printed(t, value.Value{Kind: value.List, List: []value.Value{}}, "[]")
	printed(t, value.Value{Kind: value.List}, "[]")
	printed(t, value.Value{Kind: value.Keys, Keys: []value.Pair{}}, "{}")
	printed(t, value.Value{Kind: value.Keys}, "{}")
}

// quoted are texts, and how layer 6 quotes them.
func quoted() map[string]string {
	l := map[string]string{
		`"`: `"\""`, `\`: `"\\"`, `/`: `"/"`, `'`: `"'"`, `\"`: `"\\\""`, `\n`: `"\\n"`, `\u0041`: `"\\u0041"`, `"a" "b"`: `"\"a\" \"b\""`,
		"\b": `"\b"`, "\t": `"\t"`, "\n": `"\n"`, "\f": `"\f"`, "\r": `"\r"`, "\r\n": `"\r\n"`, "\x00": `"\u0000"`, "\v": `"\u000b"`, "\x1f": `"\u001f"`,
		"\x7f": "\"\x7f\"", "\u0080": "\"\u0080\"", "é": `"é"`, "\u07ff": "\"\u07ff\"", "\u0800": "\"\u0800\"", "€": `"€"`, "\u2028\u2029": "\"\u2028\u2029\"",
		"\ud7ff\ue000": "\"\ud7ff\ue000\"", "\ufeff": "\"\ufeff\"", "\ufffd": "\"\ufffd\"", "\uffff": "\"\uffff\"",
		"\U00010000": "\"\U00010000\"", "😀": `"😀"`, "\U0010ffff": "\"\U0010ffff\"",
		"<a href='&'>": `"<a href='&'>"`, "a\x01é\n€\\😀\"z": `"a\u0001é\n€\\😀\"z"`,
	}
	for c := range 128 {
		s := string(rune(c))
		switch {
		case strings.ContainsAny(s, "\"\\\b\f\n\r\t"):
		case c < 32:
			l[s] = fmt.Sprintf(`"\u%04x"`, c)
		default:
			l[s] = `"` + s + `"`
		}
	}
	return l
}

// P9.1, P9.2: texts and keys are quoted.
func TestQuoted(t *testing.T) {
	one := value.Whole(1)
	for s, q := range quoted() {
		printed(t, value.Of(s), q)
		printed(t, value.Of("a"+s+s), `"a`+q[1:len(q)-1]+q[1:])
		printed(t, value.Row(value.Of(s), value.Of(s)), "["+q+","+q+"]")
		printed(t, value.Map(pair(s, value.Of(s))), "{"+q+":"+q+"}")
		printed(t, value.Map(pair("ab", one), pair(s, value.Map(pair(s, one)))), `{"ab":1,`+q+":{"+q+":1}}")
	}
	for _, c := range []struct{ s, q string }{{"x", "x"}, {"\n", `\n`}, {"\x01", `\u0001`}, {`"`, `\"`}, {"é", "é"}, {"😀", "😀"}} {
		n := api.MaxText / len(c.s)
		s, q := strings.Repeat(c.s, n), `"`+strings.Repeat(c.q, n)+`"`
		printed(t, value.Of(s), q)
		printed(t, value.Map(pair(s, value.Of(s))), "{"+q+":"+q+"}")
	}
}

// numbers are whole ones: those near 0, and about each end that a way of writing may have.
func numbers() []int64 {
	l := []int64{math.MaxInt64, math.MaxInt64 - 1, math.MinInt64, math.MinInt64 + 1}
	for n := int64(-1100); n <= 1100; n++ {
		l = append(l, n)
	}
	for ten := int64(1000); ten > 0 && ten <= 1e18; ten *= 10 {
		l = append(l, ten-1, ten, ten+1, 1-ten, -ten, -1-ten, 9*(ten/10), -9*(ten/10))
	}
	for bit := range 63 {
		two := int64(1) << bit
		l = append(l, two-1, two, two+1, 1-two, -two, -1-two)
	}
	return l
}

// P9.1, P9.2: whole numbers, by Digits and by Print.
func TestDigits(t *testing.T) {
	for n, want := range map[int64]string{
		0: "0", 1: "1", -1: "-1", 9: "9", -9: "-9", 10: "10", -10: "-10", 100: "100", 1234567890: "1234567890",
		math.MaxInt64: "9223372036854775807", math.MinInt64: "-9223372036854775808",
	} {
		if s := jprint.Digits(n); s != want {
			t.Errorf("Digits(%d) is %q, not %q", n, s, want)
		}
		printed(t, value.Whole(n), want)
	}
	for _, n := range numbers() {
		s := jprint.Digits(n)
		if want := big.NewInt(n).String(); s != want {
			t.Errorf("Digits of %s is %q", want, s)
		}
		if back, e := jlex.Whole(s); back != n || e != api.OK {
			t.Errorf("Whole(%q) is %d and %v", s, back, e)
		}
		printed(t, value.Whole(n), s)
		printed(t, value.Row(value.Whole(n), value.Map(pair(s, value.Whole(n)))), "["+s+`,{"`+s+`":`+s+"}]")
	}
}

// stuffed is a value of a Kind in which all is set, with what is wrong, deep and plenty where it plays a part.
func stuffed(k value.Kind) value.Value {
	deep := value.Value{}
	for range 40 {
		deep = value.Row(deep)
	}
	return value.Value{
		Kind: k, Flag: true, Int: 7, Text: "\xff" + strings.Repeat("x", api.MaxFile),
		List: []value.Value{deep, {Kind: 9}},
		Keys: []value.Pair{pair("\xff", value.Of("\xff")), pair("\xff", deep)},
	}
}

// twin is a value that is alike, of which all is set that plays no part.
func twin(v value.Value) value.Value {
	w := stuffed(v.Kind)
	switch v.Kind {
	case value.Flag:
		w.Flag = v.Flag
	case value.Int:
		w.Int = v.Int
	case value.Text:
		w.Text = v.Text
	case value.List:
		w.List = nil
		for _, x := range v.List {
			w.List = append(w.List, twin(x))
		}
	case value.Keys:
		w.Keys = nil
		for _, p := range v.Keys {
			w.Keys = append(w.Keys, pair(p.Key, twin(p.Value)))
		}
	}
	return w
}

// P9.1, P9.2: what plays no part in a Kind counts for nothing.
func TestWhatPlaysNoPart(t *testing.T) {
	for s, v := range texts() {
		printed(t, twin(v), s)
		printed(t, value.Row(twin(v), v), "["+s+","+s+"]")
		printed(t, value.Map(pair("x", twin(v))), `{"x":`+s+`}`)
	}
}

// unlike are values that may be, no two of which are alike.
func unlike() []value.Value {
	null, one, two := value.Value{}, value.Whole(1), value.Whole(2)
	var l []value.Value
	for _, v := range texts() {
		l = append(l, v)
	}
	for s := range quoted() {
		l = append(l, value.Of("x"+s), value.Map(pair("x"+s, null)))
	}
	return append(l,
		value.Of("0"), value.Of("-1"), value.Of("false"), value.Of("[]"), value.Of("{}"), value.Of(`""`), value.Of("[null]"), value.Of(`{"a":null}`),
		value.Row(one, two), value.Row(two, one), value.Row(one), value.Row(value.Whole(12)), value.Row(value.Of("1,2")), value.Row(value.Of("1"), value.Of("2")),
		value.Row(value.Of(`1","2`)), value.Row(null, null), value.Row(value.Of("")), value.Row(value.Row(one), two), value.Row(value.Row(one, two)),
		value.Row(one, value.Row(two)), value.Row(value.Row(), one, two), value.Row(one, two, value.Row()),
		value.Map(pair("a", one)), value.Map(pair("b", one)), value.Map(pair("a", two)), value.Map(pair("a", value.Of("1"))),
		value.Map(pair("a", one), pair("b", two)), value.Map(pair("b", two), pair("a", one)), value.Map(pair("a", two), pair("b", one)),
		value.Map(pair("a", value.Map(pair("b", one)))), value.Map(pair("a", value.Map()), pair("b", one)), value.Map(pair(`a":1,"b`, two)),
		value.Map(pair("a:1", one)), value.Map(pair("a", value.Of(`1,"b":2`))), value.Row(value.Map(pair("a", one)), value.Map(pair("b", two))),
		value.Row(value.Map(pair("a", one), pair("b", two))), value.Row(value.Of("a"), one, value.Of("b"), two),
	)
}

// P9.2: the texts of values that aren't alike are unlike, those of alike ones are alike.
func TestUnlikeTexts(t *testing.T) {
	l := unlike()
	texts := make([]string, len(l))
	for i, v := range l {
		s, e := jprint.Print(v)
		if e != api.OK {
			t.Fatalf("Print(%s) is %v", short(v), e)
		}
		texts[i] = s
	}
	for i, v := range l {
		for j, w := range l {
			if v.Same(w) != (texts[i] == texts[j]) {
				t.Errorf("the texts of %s and of %s are %s and %s", short(v), short(w), short(texts[i]), short(texts[j]))
			}
		}
	}
}

// P9.1, R3, R5: what is handed in isn't changed, nor is the room behind its ends, and each time the answer is one.
func TestNothingIsChanged(t *testing.T) {
	build := func() value.Value {
		inner := []value.Value{value.Whole(1), value.Of("é\n"), value.Of("behind"), value.Of("it")}
		keys := []value.Pair{pair("b", value.Value{Kind: value.List, List: inner[:2]}), pair("a", value.Yes(true)), pair("behind", value.Whole(7))}
		outer := []value.Value{{Kind: value.Keys, Keys: keys[:2]}, value.Map(), value.Row(value.Whole(8))}
		return value.Value{Kind: value.List, List: outer[:2]}
	}
	v, untouched := build(), build()
	for range 3 {
		printed(t, v, `[{"b":[1,"é\n"],"a":true},{}]`)
	}
	for i, x := range []value.Value{v, untouched} {
		outer := x.List[:cap(x.List)]
		keys := outer[0].Keys[:cap(outer[0].Keys)]
		inner := keys[0].Value.List[:cap(keys[0].Value.List)]
		if i == 0 && (len(outer) != 3 || len(keys) != 3 || len(inner) != 4) {
			t.Fatal("there is no room to look at")
		}
		outer[0].Keys, keys[0].Value.List = keys, inner
	}
	v.List, untouched.List = v.List[:3], untouched.List[:3]
	if !reflect.DeepEqual(v, untouched) {
		t.Errorf("Print changed what was handed in to %v", v)
	}
}
