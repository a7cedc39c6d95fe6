package json_test

import (
	"math"
	"slices"
	"strconv"
	"strings"
	"testing"

	"bosun/api"
	"bosun/json"
	"bosun/value"
)

func pair(key string, v value.Value) value.Pair { return value.Pair{Key: key, Value: v} }

// read holds that a document has a value, one that may be.
func read(t *testing.T, s string, want value.Value) {
	t.Helper()
	v, m := json.Parse(s)
	if m != (json.Mistake{}) || !v.Same(want) {
		t.Errorf("Parse(%.200q) is %v and %v, not %v", s, v, m, want)
	}
	if e := v.Check(); e != api.OK {
		t.Errorf("what is read of %.200q has the Check %v", s, e)
	}
}

// refused holds that a text is no document, for which error, and where, and that nothing else is answered.
func refused(t *testing.T, s string, at int, e api.Errno) {
	t.Helper()
	v, m := json.Parse(s)
	if m.At != at || m.Err != e {
		t.Errorf("Parse(%.200q) is wrong at %d: %v, not at %d: %v", s, m.At, m.Err, at, e)
	}
	if !zero(v) {
		t.Errorf("of %.200q, which is no document, Parse answers %v", s, v)
	}
}

// zero says whether a value is the zero one, in what plays no part, too.
func zero(v value.Value) bool {
	return v.Kind == 0 && !v.Flag && v.Int == 0 && v.Text == "" && len(v.List) == 0 && len(v.Keys) == 0
}

// P8.1: the chapter's example.
func TestExample(t *testing.T) {
	read(t, `{"a":[1,null]}`, value.Map(pair("a", value.Row(value.Whole(1), value.Value{}))))
}

// documents are some, and their values.
func documents() map[string]value.Value {
	null, one := value.Value{}, value.Whole(1)
	return map[string]value.Value{
		`null`:                             null,
		`true`:                             value.Yes(true),
		`false`:                            value.Yes(false),
		`0`:                                value.Whole(0),
		`-0`:                               value.Whole(0),
		`-12`:                              value.Whole(-12),
		`9223372036854775807`:              value.Whole(math.MaxInt64),
		`-9223372036854775808`:             value.Whole(math.MinInt64),
		`""`:                               value.Of(""),
		`"null"`:                           value.Of("null"),
		`"\u00e9\n\ud83d\ude00"`:           value.Of("é\n😀"),
		`[]`:                               value.Row(),
		`{}`:                               value.Map(),
		`[null]`:                           value.Row(null),
		`[[]]`:                             value.Row(value.Row()),
		`[{}]`:                             value.Row(value.Map()),
		`[1,1]`:                            value.Row(one, one),
		`[true,false,null,1,"1"]`:          value.Row(value.Yes(true), value.Yes(false), null, one, value.Of("1")),
		`[[],[1],[[1]],{},{"a":[]}]`:       value.Row(value.Row(), value.Row(one), value.Row(value.Row(one)), value.Map(), value.Map(pair("a", value.Row()))),
		`{"a":null}`:                       value.Map(pair("a", null)),
		`{"":""}`:                          value.Map(pair("", value.Of(""))),
		`{"a":{},"b":[]}`:                  value.Map(pair("a", value.Map()), pair("b", value.Row())),
		`{"b":1,"a":2,"A":3}`:              value.Map(pair("b", one), pair("a", value.Whole(2)), pair("A", value.Whole(3))),
		`{"a":"a","b":"a"}`:                value.Map(pair("a", value.Of("a")), pair("b", value.Of("a"))),
		`{"a":{"a":{"a":1}}}`:              value.Map(pair("a", value.Map(pair("a", value.Map(pair("a", one)))))),
		`{"a":{"b":1},"b":{"a":1}}`:        value.Map(pair("a", value.Map(pair("b", one))), pair("b", value.Map(pair("a", one)))),
		`[{"a":1},{"a":1}]`:                value.Row(value.Map(pair("a", one)), value.Map(pair("a", one))),
		`{"a":[{"a":1},{"a":1}],"b":1}`:    value.Map(pair("a", value.Row(value.Map(pair("a", one)), value.Map(pair("a", one)))), pair("b", one)),
		`{"a":["a","a","b"],"b":"a"}`:      value.Map(pair("a", value.Row(value.Of("a"), value.Of("a"), value.Of("b"))), pair("b", value.Of("a"))),
		`{"a":1,"a ":2," a":3,"\u00e1":4}`: value.Map(pair("a", one), pair("a ", value.Whole(2)), pair(" a", value.Whole(3)), pair("á", value.Whole(4))),
		`{"{\"a\":1}":"[1,2]"}`:            value.Map(pair(`{"a":1}`, value.Of("[1,2]"))),
		`{"true":true,"null":null,"1":1}`:  value.Map(pair("true", value.Yes(true)), pair("null", null), pair("1", one)),
	}
}

// P8.1: documents of each kind.
func TestDocuments(t *testing.T) {
	for s, v := range documents() {
		read(t, s, v)
		read(t, "["+s+"]", value.Row(v))
		read(t, "["+s+",1,"+s+"]", value.Row(v, value.Whole(1), v))
		read(t, `{"x":`+s+`}`, value.Map(pair("x", v)))
		read(t, `{"a":`+s+`,"b":`+s+`}`, value.Map(pair("a", v), pair("b", v)))
	}
}

// P8.1: what a value has no use for stays zero.
func TestNothingBeside(t *testing.T) {
	for s, v := range documents() {
		got, _ := json.Parse(s)
		if got.Flag != v.Flag || got.Int != v.Int || got.Text != v.Text || len(got.List) != len(v.List) || len(got.Keys) != len(v.Keys) {
			t.Errorf("Parse(%q) is %v, not %v", s, got, v)
		}
	}
}

// P8.1: layer 7's errors come ahead of all, with their places.
func TestErrorsOfWords(t *testing.T) {
	for s, e := range map[string]api.Errno{
		`nul`: api.ErrForm, `@`: api.ErrForm, `01`: api.ErrNumber, `-`: api.ErrNumber, `1.5`: api.ErrNumber, `9223372036854775808`: api.ErrRange,
		`"`: api.ErrEnd, `"a`: api.ErrEnd, `"\q"`: api.ErrForm, `"\ud800"`: api.ErrText, "\"\n\"": api.ErrText, `"` + strings.Repeat("x", 4097) + `"`: api.ErrLong,
	} {
		for _, ahead := range []string{"", " ", "[", "]", `{"a":`, "[1,\n", "[[[", "1 ", ",", "{}} ", `{"a":1,"a":`, strings.Repeat("[", 33)} {
			refused(t, ahead+s, len(ahead), e)
		}
	}
	refused(t, "] 01", 2, api.ErrNumber)
	refused(t, `{"a":1,"a":2} nul`, 14, api.ErrForm)
	refused(t, "{01:@}", 1, api.ErrNumber)
	long := strings.Repeat(" ", 1<<20)
	refused(t, long, 1<<20, api.ErrForm)
	refused(t, long+" ", 0, api.ErrLong)
	refused(t, "]@"+long, 0, api.ErrLong)
	read(t, long[:1<<20-1]+"1", value.Whole(1))
	read(t, "{}"+long[:1<<20-2], value.Map())
	refused(t, "1"+long, 0, api.ErrLong)
}

// P8.1: each word where another should stand, at its place.
func TestForm(t *testing.T) {
	words := []string{"{", "}", "[", "]", ":", ",", `"t"`, "null", "true", "false", "1", ""}
	begins := []string{"{", "[", `"t"`, "null", "true", "false", "1"}
	for _, here := range []struct {
		ahead string
		right []string
	}{
		{``, begins},
		{`1`, []string{""}},
		{`null`, []string{""}},
		{`"x"`, []string{""}},
		{`[]`, []string{""}},
		{`{"x":[]}`, []string{""}},
		{`[`, append([]string{"]"}, begins...)},
		{`[null`, []string{",", "]"}},
		{`["x"`, []string{",", "]"}},
		{`[{}`, []string{",", "]"}},
		{`[[1]`, []string{",", "]"}},
		{`[1,`, begins},
		{`[[],`, begins},
		{`[1,2,`, begins},
		{`[1,2`, []string{",", "]"}},
		{`{`, []string{"}", `"t"`}},
		{`{"x"`, []string{":"}},
		{`{"x":`, begins},
		{`{"x":true`, []string{",", "}"}},
		{`{"x":"x"`, []string{",", "}"}},
		{`{"x":{}`, []string{",", "}"}},
		{`{"x":[1]`, []string{",", "}"}},
		{`{"x":1,`, []string{`"t"`}},
		{`{"x":1,"y"`, []string{":"}},
		{`{"x":1,"y":`, begins},
		{`{"x":1,"y":2`, []string{",", "}"}},
		{`[{"x":[`, append([]string{"]"}, begins...)},
		{`[{"x":[1,`, begins},
		{`[{"x":[1]`, []string{",", "}"}},
		{`[{"x":[1]}`, []string{",", "]"}},
	} {
		for _, w := range words {
			if slices.Contains(here.right, w) {
				mayStand(t, here.ahead, w)
			} else {
				mayNotStand(t, here.ahead, w)
			}
		}
	}
}

// mayStand holds that a word may stand where it does: what is wrong shows behind it, if anything is.
func mayStand(t *testing.T, ahead, word string) {
	t.Helper()
	s := ahead + " " + word
	if v, m := json.Parse(s); m.Err == api.OK && v.Check() == api.OK {
		return
	}
	if word == "" {
		t.Errorf("Parse(%q) is wrong", s)
	}
	refused(t, s, len(s), api.ErrForm)
	refused(t, s+"  ", len(s)+2, api.ErrForm)
}

// mayNotStand holds that a word, or the text's end, may not stand where it does, whatever is behind it.
func mayNotStand(t *testing.T, ahead, word string) {
	t.Helper()
	for _, blanks := range []string{" ", "\n\t \r"} {
		at := len(ahead + blanks)
		refused(t, ahead+blanks+word, at, api.ErrForm)
		for _, behind := range []string{" ", " ]", " 1", " {", ` "t" :`, " , ,"} {
			if word != "" {
				refused(t, ahead+blanks+word+behind, at, api.ErrForm)
			}
		}
	}
}

// P8.1: some texts that are no documents.
func TestNoDocuments(t *testing.T) {
	for s, at := range map[string]int{
		"": 0, " \n": 2, "[1,]": 3, "[,1]": 1, "[,]": 1, "[1,,2]": 3, "[1 2]": 3, "[": 1, "[1": 2, "[1,": 3, "]": 0, "[1]]": 3, "[1],": 3, "1 2": 2, "{} {}": 3,
		"{": 1, "}": 0, "{,}": 1, `{"a"}`: 4, `{"a":}`: 5, `{"a":1,}`: 7, `{"a":1,,"b":2}`: 7, `{"a" 1}`: 5, `{"a"::1}`: 5, `{"a":1 "b":2}`: 7, `{"a":1:2}`: 6, `{"a","b"}`: 4,
		`{1:2}`: 1, `{null:1}`: 1, `{true:1}`: 1, `{[]:1}`: 1, `{{}:1}`: 1, `{"a":1]`: 6, `[1}`: 2, `[{]}`: 2, `["a":1]`: 4, `"a":1`: 3, `:`: 0, `,`: 0, "null null": 5, "truefalse1": 0,
		"true1": 4, `{"a":1}}`: 7, `{"a":1`: 6, `{"a":1 `: 7, "[[]": 3, "[[1]]]": 5, `{"a":1,1:2}`: 7,
	} {
		refused(t, s, at, api.ErrForm)
	}
}

// way is how a value may be put into a list, or keys, alone or beside others.
type way struct {
	ahead, behind string
	around        func(v value.Value) value.Value
}

// ways are some that put no other list, and no other keys, beside the value.
func ways() []way {
	one := value.Whole(1)
	return []way{
		{"[", "]", func(v value.Value) value.Value { return value.Row(v) }},
		{"[1,", "]", func(v value.Value) value.Value { return value.Row(one, v) }},
		{"[", ",1]", func(v value.Value) value.Value { return value.Row(v, one) }},
		{`{"a":`, "}", func(v value.Value) value.Value { return value.Map(pair("a", v)) }},
		{`{"a":1,"b":`, `,"c":1}`, func(v value.Value) value.Value { return value.Map(pair("a", one), pair("b", v), pair("c", one)) }},
	}
}

// P8.1: lists and keys within each other up to 32, and one more.
func TestDeep(t *testing.T) {
	for s, v := range map[string]value.Value{
		"[]": value.Row(), "{}": value.Map(), "[1]": value.Row(value.Whole(1)), `{"a":1,"b":2}`: value.Map(pair("a", value.Whole(1)), pair("b", value.Whole(2))),
	} {
		for _, w := range ways() {
			ahead, behind, want := strings.Repeat(w.ahead, 31), strings.Repeat(w.behind, 31), v
			for range 31 {
				want = w.around(want)
			}
			read(t, ahead+s+behind, want)
			for _, x := range ways() {
				deeper := ahead + x.ahead
				refused(t, deeper+s+x.behind+behind, len(deeper), api.ErrDeep)
				refused(t, deeper+s, len(deeper), api.ErrDeep)
				refused(t, deeper+s[:1], len(deeper), api.ErrDeep)
				refused(t, deeper+s[:1]+":},]", len(deeper), api.ErrDeep)
				read(t, deeper+`"x"`+x.behind+behind, deepest(w, x))
			}
		}
	}
}

// deepest is a text in 32 others.
func deepest(w, x way) value.Value {
	v := x.around(value.Of("x"))
	for range 31 {
		v = w.around(v)
	}
	return v
}

// P8.1: ErrDeep is of a Begin or an Open alone that may stand there.
func TestDeepOrForm(t *testing.T) {
	lists, keys := strings.Repeat("[", 32), strings.Repeat(`{"a":`, 31)+"{"
	refused(t, lists+"1[", 33, api.ErrForm)
	refused(t, lists+"1 {", 34, api.ErrForm)
	refused(t, lists+"1,[", 34, api.ErrDeep)
	refused(t, lists+"1, {", 35, api.ErrDeep)
	refused(t, lists+"}", 32, api.ErrForm)
	refused(t, lists+",", 32, api.ErrForm)
	refused(t, lists, 32, api.ErrForm)
	refused(t, lists+"]]", 34, api.ErrForm)
	refused(t, lists+"],[1],[[", 32+7, api.ErrDeep)
	refused(t, keys+"{", 156, api.ErrForm)
	refused(t, keys+"[", 156, api.ErrForm)
	refused(t, keys+`"a"{`, 159, api.ErrForm)
	refused(t, keys+`"a":{`, 160, api.ErrDeep)
	refused(t, keys+`"a":[`, 160, api.ErrDeep)
	refused(t, strings.Repeat("[", 1<<20), 32, api.ErrDeep)
	refused(t, strings.Repeat(`{"":`, 1<<18), 128, api.ErrDeep)
	refused(t, strings.Repeat("[]", 1<<19), 2, api.ErrForm)
}

// P8.1: a key that comes twice, told at its second place, whatever stands behind it.
func TestTwice(t *testing.T) {
	for ahead, key := range map[string]string{
		`{"a":1,`:                     `"a"`,
		`{"a":1, `:                    `"\u0061"`,
		`{"\u0061":1,` + "\n":         `"a"`,
		`{"":1,`:                      `""`,
		`{"é":1,`:                     `"\u00e9"`,
		`{"a\/":1,`:                   `"a/"`,
		`{"\ud83d\ude00":1,`:          `"😀"`,
		`{"a":1,"b":2,"c":3,`:         `"b"`,
		`{"a":{},"b":[],`:             `"a"`,
		`{"a":{"b":1,"a":2},"b":3,`:   `"b"`,
		`{"x":{"a":1,`:                `"a"`,
		`[{"a":1},{"a":1,`:            `"a"`,
		`{"a":[{"a":1}],"b":{"a":1},`: `"a"`,
		`{"a":{"a":{"a":1,"b":{},`:    `"a"`,
		`[[],{"b":{"c":1},"d":{},`:    `"d"`,
		`{"` + long + `":1,"x":2,`:    `"` + long + `"`,
		strings.Repeat(`{"a":1,"b":`, 31) + `{"a":1,`: `"a"`,
	} {
		for _, behind := range []string{`:1}`, `:1`, `:`, ``, ` `, `}`, `,`, `]`, ` "a"`, `:[`, ` 1`, `:1,"a":2}`} {
			refused(t, ahead+key+behind, len(ahead), api.ErrTwice)
		}
		refused(t, ahead+key+" nul", len(ahead+key)+1, api.ErrForm)
	}
}

// long is a key that is as long as may be.
var long = strings.Repeat("k", 4096)

// P8.1: what is wrong further left is told.
func TestFirstFromTheLeft(t *testing.T) {
	deep := strings.Repeat("[", 33)
	refused(t, `{"a":1,"a":2,]`, 7, api.ErrTwice)
	refused(t, `{"a":1,,"a":2}`, 7, api.ErrForm)
	refused(t, `{"a":1 "a":2}`, 7, api.ErrForm)
	refused(t, `{"a":`+deep, 36, api.ErrDeep)
	refused(t, `{"a":1,"a":`+deep, 7, api.ErrTwice)
	refused(t, `{"a":`+deep+`,"a":1`, 36, api.ErrDeep)
	refused(t, `[]`+deep, 2, api.ErrForm)
	refused(t, deep+`}`, 32, api.ErrDeep)
	refused(t, `{"a":1,"b":2,"b":3,"a":4}`, 13, api.ErrTwice)
	refused(t, `{"a":{"b":1,"b":2},"a":4}`, 12, api.ErrTwice)
	refused(t, `{"a":["a" "a"],"a":4}`, 10, api.ErrForm)
	refused(t, `{"a":1,"a":01}`, 11, api.ErrNumber)
	refused(t, deep+` "`, 34, api.ErrEnd)
}

// P8.1, R1: lists and keys as many as a text can hold.
func TestMany(t *testing.T) {
	const n = 1 << 20
	v, m := json.Parse("[0" + strings.Repeat(",0", n/2-2) + "]")
	if m != (json.Mistake{}) || len(v.List) != n/2-1 {
		t.Errorf("of many numbers Parse answers %d and %v", len(v.List), m)
	}
	v, m = json.Parse("[[]" + strings.Repeat(",[]", n/3-2) + "]")
	if m != (json.Mistake{}) || len(v.List) != n/3-1 || v.Depth() != 2 {
		t.Errorf("of many lists Parse answers %d and %v", len(v.List), m)
	}
	s := []byte(`{"":0`)
	many := 1
	for ; len(s) < n-20; many++ {
		s = append(strconv.AppendInt(append(s, `,"`...), int64(many), 36), `":0`...)
	}
	v, m = json.Parse(string(s) + "}")
	if m != (json.Mistake{}) || len(v.Keys) != many || v.Keys[many-1].Key != strconv.FormatInt(int64(many-1), 36) || v.Check() != api.OK {
		t.Errorf("of many keys Parse answers %d and %v", len(v.Keys), m)
	}
	refused(t, string(s)+`,"7":0}`, len(s)+1, api.ErrTwice)
	refused(t, string(s), len(s), api.ErrForm)
}

// R3, R5: what is answered is new, each time.
func TestAnswersAreNew(t *testing.T) {
	const s = `[[1],{"a":[1]},{"a":[1]}]`
	one, _ := json.Parse(s)
	other, _ := json.Parse(s)
	one.List[0].List[0] = value.Of("x")
	one.List[1].Keys[0].Value.List[0] = value.Of("x")
	one.List[1].Keys[0].Key = "x"
	if got, _ := one.List[2].Get("a"); !got.Same(value.Row(value.Whole(1))) {
		t.Errorf("two lists of one answer share what is in them: %v", one)
	}
	again, _ := json.Parse(s)
	if !other.Same(again) {
		t.Errorf("Parse(%q) is %v, then %v", s, other, again)
	}
}
