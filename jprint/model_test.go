package jprint_test

import (
	"bytes"
	library "encoding/json"
	"fmt"
	"math/rand"
	"strings"
	"testing"

	"bosun/api"
	"bosun/jprint"
	"bosun/json"
	"bosun/value"
)

// signs are those that don't stand in quotes as they are, each with how it is written.
var signs = func() *strings.Replacer {
	l := []string{`"`, `\"`, `\`, `\\`, "\n", `\n`, "\r", `\r`, "\t", `\t`, "\b", `\b`, "\f", `\f`}
	for c := range 32 {
		l = append(l, string(rune(c)), fmt.Sprintf(`\u%04x`, c))
	}
	return strings.NewReplacer(l...)
}()

// model is a value's text, by the chapter's words.
func model(v value.Value) string {
	var l []string
	switch v.Kind {
	case value.Flag:
		return fmt.Sprint(v.Flag)
	case value.Int:
		return fmt.Sprint(v.Int)
	case value.Text:
		return `"` + signs.Replace(v.Text) + `"`
	case value.List:
		for _, x := range v.List {
			l = append(l, model(x))
		}
		return "[" + strings.Join(l, ",") + "]"
	case value.Keys:
		for _, p := range v.Keys {
			l = append(l, model(value.Of(p.Key))+":"+model(p.Value))
		}
		return "{" + strings.Join(l, ",") + "}"
	}
	return "null"
}

// anyText is a text of a few signs of each sort, mostly.
func anyText(r *rand.Rand) string {
	parts := []string{"a", "b", " ", "/", `"`, `\`, "\n", "\r", "\t", "\b", "\f", "\x00", "\x1f", "\x7f", "é", "\u2028", "€", "\ufffd", "😀", ":", ",", "[", "}", "null", `\u00e9`}
	s := ""
	for range r.Intn(5) {
		s += parts[r.Intn(len(parts))]
	}
	switch r.Intn(20) {
	case 0:
		s += "\xff"
	case 1:
		s = strings.Repeat(s, r.Intn(api.MaxText))
	}
	return s
}

// anyValue is a value that lies so deep at most; now and then it may not be.
func anyValue(r *rand.Rand, depth int) value.Value {
	v := value.Value{Kind: value.Kind(r.Intn(6)), Flag: r.Intn(2) == 0, Int: r.Int63() >> r.Intn(64)}
	if r.Intn(2) == 0 {
		v.Int = -v.Int
	}
	if v.Kind == value.Text || r.Intn(4) == 0 {
		v.Text = anyText(r)
	}
	if depth > 0 {
		for range r.Intn(4) {
			v.List = append(v.List, anyValue(r, depth-1))
			v.Keys = append(v.Keys, pair(anyText(r), anyValue(r, depth-1)))
		}
	}
	if r.Intn(200) == 0 {
		v.Kind = value.Kind(r.Intn(20) - 7)
	}
	return v
}

// hold holds Print against the model, and says whether the value has a text.
func hold(t *testing.T, v value.Value) bool {
	t.Helper()
	if e := v.Check(); e != api.OK {
		refused(t, v, e)
		return false
	}
	want := model(v)
	if len(want) > 1<<20 {
		refused(t, v, api.ErrLong)
		return false
	}
	printed(t, v, want)
	return true
}

// P9.1, P9.2: whatever values are handed in.
func TestAnyValue(t *testing.T) {
	r := rand.New(rand.NewSource(1))
	right, wrong := 0, 0
	for range 20000 {
		if hold(t, anyValue(r, r.Intn(5))) {
			right++
		} else {
			wrong++
		}
		if t.Failed() {
			t.FailNow()
		}
	}
	if right < 10000 || wrong < 500 {
		t.Errorf("%d of the values have a text, %d have none", right, wrong)
	}
}

// P9.1: values about the limit of bytes.
func TestAnyLength(t *testing.T) {
	r := rand.New(rand.NewSource(2))
	right, wrong := 0, 0
	for range 40 {
		l := []value.Value{exactly(1<<20 - 1000 - r.Intn(1000))}
		for size := 0; size < 1000; size += len(model(l[len(l)-1])) + 1 {
			x := anyValue(r, 3)
			if x.Check() == api.OK {
				l = append(l, x)
			}
		}
		if hold(t, value.Row(l...)) {
			right++
		} else {
			wrong++
		}
		if t.Failed() {
			t.FailNow()
		}
	}
	if right < 10 || wrong < 10 {
		t.Errorf("%d of the values have a text, %d have none", right, wrong)
	}
}

// P9.1: texts are JSON to the library, too, with no blank that could be left out.
func TestTextsAreJSON(t *testing.T) {
	r := rand.New(rand.NewSource(3))
	for range 5000 {
		v := anyValue(r, 4)
		s, e := jprint.Print(v)
		if e != api.OK {
			continue
		}
		var b bytes.Buffer
		if err := library.Compact(&b, []byte(s)); err != nil || b.String() != s {
			t.Fatalf("Print(%s) is %s, of which the library makes %s and %v", short(v), short(s), short(b.String()), err)
		}
	}
}

// small are all values that lie so deep at most, and have a few parts: two plain values, one key or two.
func small(depth int) []value.Value {
	l := []value.Value{{}, value.Of("a")}
	if depth == 0 {
		return l
	}
	inner := small(depth - 1)
	l = append(l, value.Row(), value.Map())
	for _, x := range inner {
		l = append(l, value.Row(x), value.Map(pair("a", x)), value.Map(pair("", x)))
		for _, y := range inner {
			l = append(l, value.Row(x, y), value.Map(pair("a", x), pair("", y)), value.Map(pair("", x), pair("a", y)))
		}
	}
	return l
}

// P9.2: no two of all small values have one text.
func TestSmallValues(t *testing.T) {
	met := map[string]value.Value{}
	for _, v := range small(2) {
		s, e := jprint.Print(v)
		if e != api.OK {
			t.Fatalf("Print(%s) is %v", short(v), e)
		}
		if w, ok := met[s]; ok {
			t.Fatalf("%s and %s have the text %s", short(v), short(w), s)
		}
		met[s] = v
		if back, m := json.Parse(s); m != (json.Mistake{}) || !back.Same(v) {
			t.Fatalf("what is read of %s is %s and %v", s, short(back), m)
		}
	}
}
