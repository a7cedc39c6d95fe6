package yprint_test

import (
	"fmt"
	"math/rand"
	"regexp"
	"slices"
	"strings"
	"testing"

	"bosun/api"
	"bosun/value"
	"bosun/yaml"
	"bosun/yprint"
)

// signs are those that don't stand in quotes as they are, each with how it is written.
var signs = func() *strings.Replacer {
	l := []string{`"`, `\"`, `\`, `\\`, "\n", `\n`, "\r", `\r`, "\t", `\t`, "\b", `\b`, "\f", `\f`}
	for c := range 32 {
		l = append(l, string(rune(c)), fmt.Sprintf(`\u%04x`, c))
	}
	return strings.NewReplacer(l...)
}()

// plainKey is layer 11's word for one, but for the names.
var plainKey = regexp.MustCompile(`^[A-Za-z_][A-Za-z0-9._/-]*$`)

// modelQuote is a text, quoted.
func modelQuote(s string) string { return `"` + signs.Replace(s) + `"` }

// modelKey is a key, and its colon.
func modelKey(s string) string {
	if plainKey.MatchString(s) && !slices.Contains([]string{"null", "true", "false"}, s) {
		return s + ":"
	}
	return modelQuote(s) + ":"
}

// model are a value's lines by the chapter's words, without the line feeds, as they are at the indent 0; and whether
// the value has parts.
func model(v value.Value) (l []string, hasParts bool) {
	switch v.Kind {
	case value.Flag:
		return []string{fmt.Sprint(v.Flag)}, false
	case value.Int:
		return []string{fmt.Sprint(v.Int)}, false
	case value.Text:
		return []string{modelQuote(v.Text)}, false
	case value.List:
		for _, x := range v.List {
			l = append(l, modelPart("-", x)...)
		}
		if l == nil {
			return []string{"[]"}, false
		}
		return l, true
	case value.Keys:
		for _, p := range v.Keys {
			l = append(l, modelPart(modelKey(p.Key), p.Value)...)
		}
		if l == nil {
			return []string{"{}"}, false
		}
		return l, true
	}
	return []string{"null"}, false
}

// modelPart are a value's lines behind a dash, or a key, with these.
func modelPart(ahead string, v value.Value) []string {
	inner, hasParts := model(v)
	if !hasParts {
		return []string{ahead + " " + inner[0]}
	}
	l := []string{ahead}
	for _, s := range inner {
		l = append(l, "  "+s)
	}
	return l
}

// modelLines are all lines of a value.
func modelLines(v value.Value) string {
	l, _ := model(v)
	return lines(l...)
}

// anyText is a text of a few signs of each sort, mostly.
func anyText(r *rand.Rand) string {
	parts := []string{
		"a", "b", "Z", "_", "0", "9", ".", "/", "-", ":", ": ", " ", " # ", "#", `"`, `\`, "\n", "\r", "\t", "\b", "\f", "\x00", "\x1f", "\x7f", "é", "\u2028", "€", "\ufffd", "😀",
		"[]", "{}", "null", "true", "false", "- ", `\u00e9`, "+", "@", "~", "'",
	}
	s := ""
	if r.Intn(2) == 0 {
		parts = parts[:9]
	}
	for range r.Intn(5) {
		s += parts[r.Intn(len(parts))]
	}
	switch r.Intn(30) {
	case 0:
		s += "\xff"
	case 1:
		s = strings.Repeat(s, r.Intn(api.MaxText))
	case 2, 3, 4:
		s = []string{"null", "true", "false"}[r.Intn(3)]
	}
	return s
}

// anyValue is a value that lies so deep at most; now and then it may not be.
func anyValue(r *rand.Rand, depth int) value.Value {
	v := value.Value{Kind: value.Kind(r.Intn(6)), Flag: r.Intn(2) == 0, Int: r.Int63() >> r.Intn(64)}
	if r.Intn(2) == 0 {
		v.Int = -v.Int
	}
	if depth > 0 && r.Intn(2) == 0 {
		v.Kind = value.List + value.Kind(r.Intn(2))
	}
	if v.Kind == value.Text || r.Intn(4) == 0 {
		v.Text = anyText(r)
	}
	if depth > 0 {
		for range r.Intn(4) {
			v.List = append(v.List, anyValue(r, depth-1))
			v.Keys = append(v.Keys, pair(anyText(r), anyValue(r, depth-1)))
		}
	}
	if r.Intn(200) == 0 {
		v.Kind = value.Kind(r.Intn(20) - 7)
	}
	return v
}

// hold holds Print against the model, and says whether the value has lines.
func hold(t *testing.T, v value.Value) bool {
	t.Helper()
	if e := v.Check(); e != api.OK {
		refused(t, v, e)
		return false
	}
	want := modelLines(v)
	if len(want) > 1<<20 {
		refused(t, v, api.ErrLong)
		return false
	}
	printed(t, v, want)
	return true
}

// P12.1, P12.2: whatever values are handed in.
func TestAnyValue(t *testing.T) {
	r := rand.New(rand.NewSource(1))
	right, wrong := 0, 0
	for range 20000 {
		if hold(t, anyValue(r, r.Intn(6))) {
			right++
		} else {
			wrong++
		}
		if t.Failed() {
			t.FailNow()
		}
	}
	if right < 10000 || wrong < 1000 {
		t.Errorf("%d of the values have lines, %d have none", right, wrong)
	}
}

// P12.1: values about the limit of bytes.
func TestAnyLength(t *testing.T) {
	r := rand.New(rand.NewSource(2))
	right, wrong := 0, 0
	for range 40 {
		l := exactly(1<<20-1000-r.Intn(1000), 0).List
		for size := 0; size < 1000; {
			x := anyValue(r, 3)
			if x.Check() == api.OK {
				l = append(l, x)
				size += len(modelLines(value.Row(x)))
			}
		}
		if hold(t, value.Row(l...)) {
			right++
		} else {
			wrong++
		}
		if t.Failed() {
			t.FailNow()
		}
	}
	if right < 5 || wrong < 5 {
		t.Errorf("%d of the values have lines, %d have none", right, wrong)
	}
}

// P12.1: each line ends with a line feed, no line with a blank; each stands 2 blanks, or none, farther in than the one
// ahead of it, or an even number less; and nothing but dashes and keys that stand alone have lines farther in behind them.
func TestEachLine(t *testing.T) {
	r := rand.New(rand.NewSource(3))
	looked := 0
	for range 5000 {
		v := anyValue(r, 5)
		s, e := yprint.Print(v)
		if e != api.OK {
			continue
		}
		l := strings.Split(s, "\n")
		if len(l) < 2 || l[len(l)-1] != "" {
			t.Fatalf("%s doesn't end with a line feed", short(s))
		}
		before, opened := 0, false
		for i, line := range l[:len(l)-1] {
			said := strings.TrimLeft(line, " ")
			indent := len(line) - len(said)
			if said == "" || strings.TrimRight(line, " ") != line || indent%2 != 0 {
				t.Fatalf("a line of %s is %q", short(s), line)
			}
			if opened != (indent == before+2) || indent > before+2 || i == 0 && indent != 0 {
				t.Fatalf("a line of %s is %q, behind the indent %d", short(s), line, before)
			}
			before, opened = indent, said == "-" || strings.HasSuffix(said, ":")
			looked++
		}
		if opened {
			t.Fatalf("nothing stands behind the last line of %s", short(s))
		}
	}
	if looked < 10000 {
		t.Errorf("only %d lines were looked at", looked)
	}
}

// small are all values that lie so deep at most, and have a few parts: two plain values, one key or two.
func small(depth int) []value.Value {
	l := []value.Value{null, value.Of("a")}
	if depth == 0 {
		return l
	}
	inner := small(depth - 1)
	l = append(l, value.Row(), value.Map())
	for _, x := range inner {
		l = append(l, value.Row(x), keyed("a", x), keyed("", x))
		for _, y := range inner {
			l = append(l, value.Row(x, y), value.Map(pair("a", x), pair("", y)), value.Map(pair("", x), pair("a", y)))
		}
	}
	return l
}

// P12.1, P12.2: all small values are written by the chapter's words, and no two of them have the same lines.
func TestSmallValues(t *testing.T) {
	met := map[string]value.Value{}
	for _, v := range small(2) {
		s, e := yprint.Print(v)
		if e != api.OK || s != modelLines(v) {
			t.Fatalf("Print(%s) is %s and %v", short(v), short(s), e)
		}
		if w, ok := met[s]; ok {
			t.Fatalf("%s and %s have the lines %s", short(v), short(w), s)
		}
		met[s] = v
		if back, m := yaml.Parse(s); m != (yaml.Mistake{}) || !back.Same(v) {
			t.Fatalf("what is read of %s is %s and %v", s, short(back), m)
		}
	}
}
