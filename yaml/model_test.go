package yaml_test

import (
	"math/rand"
	"regexp"
	"slices"
	"strings"
	"testing"

	"bosun/api"
	"bosun/jlex"
	"bosun/utf"
	"bosun/value"
	"bosun/yaml"
	"bosun/ylines"
)

// The chapter's words for what texts are.
var (
	plainWord = regexp.MustCompile(`^[A-Za-z0-9._/:@+-]+$`)
	plainKey  = regexp.MustCompile(`^[A-Za-z_][A-Za-z0-9._/-]*$`)
	keyRow    = regexp.MustCompile(`^(.*?):(?: +(.+))?$`)
	behindKey = regexp.MustCompile(`^:(?: +(.+))?$`)
	number    = regexp.MustCompile(`^[0-9-]`)
)

// kind is what a row is.
type kind int

const (
	isDash kind = iota
	isKey
	isScalar
)

// looked is a row, and what is told of it whatever others there are.
type looked struct {
	ylines.Row
	kind   kind
	key    string
	behind string
	early  api.Errno // what is wrong with its text, if it isn't among dashes
	form   api.Errno // what is wrong with its key
}

// look tells what a row is.
func look(r ylines.Row) looked {
	l := looked{Row: r, kind: isScalar}
	switch {
	case r.Dash:
		l.kind = isDash
	case strings.HasPrefix(r.Text, `"`):
		lookQuoted(&l)
	case keyRow.MatchString(r.Text):
		m := keyRow.FindStringSubmatch(r.Text)
		l.kind, l.key, l.behind = isKey, m[1], m[2]
		switch {
		case !plainKey.MatchString(l.key) || slices.Contains([]string{"null", "true", "false"}, l.key):
			l.form = api.ErrForm
		case len(l.key) > 4096:
			l.form = api.ErrLong
		}
	}
	return l
}

// lookQuoted tells what a row is whose text begins with a quoted part.
func lookQuoted(l *looked) {
	text, used, e := utf.Unquote(l.Text)
	if e != api.OK {
		l.early = e
		return
	}
	rest := l.Text[used:]
	m := behindKey.FindStringSubmatch(rest)
	switch {
	case m != nil:
		l.kind, l.key, l.behind = isKey, text, m[1]
	case rest != "":
		l.early = api.ErrForm
	}
}

// scalarOf is what a scalar says, in so many others.
func scalarOf(s string, inside int) (value.Value, api.Errno) {
	switch {
	case s == "null":
		return value.Value{}, api.OK
	case s == "true":
		return value.Yes(true), api.OK
	case s == "false":
		return value.Yes(false), api.OK
	case (s == "[]" || s == "{}") && inside == 32:
		return value.Value{}, api.ErrDeep
	case s == "[]":
		return value.Row(), api.OK
	case s == "{}":
		return value.Map(), api.OK
	case strings.HasPrefix(s, `"`):
		text, used, e := utf.Unquote(s)
		if e == api.OK && used < len(s) {
			e = api.ErrForm
		}
		return value.Of(text), e
	case !plainWord.MatchString(s):
		return value.Value{}, api.ErrForm
	case number.MatchString(s):
		n, e := jlex.Whole(s)
		return value.Whole(n), e
	case len(s) > 4096:
		return value.Value{}, api.ErrLong
	}
	return value.Of(s), api.OK
}

// above is the place of the row of the block around the one in which row k stands: the last one of a smaller indent.
func above(l []looked, k int) int {
	for j := k - 1; j >= 0; j-- {
		if l[j].Indent < l[k].Indent {
			return j
		}
	}
	return -1
}

// inside is how many lists and keys the block is in, in which row k stands.
func inside(l []looked, k int) int {
	n := 0
	for j := above(l, k); j >= 0; j = above(l, j) {
		n++
	}
	return n
}

// fault is what is wrong with row k, when nothing is with those ahead of it.
func fault(l []looked, k int) api.Errno {
	r := l[k]
	begins := k == 0 || l[k-1].Indent < r.Indent
	if k == 0 && r.Indent > 0 {
		return api.ErrForm
	}
	// Those of its block that stand ahead of it.
	var block []looked
	if begins {
		if k > 0 && (l[k-1].kind == isScalar || l[k-1].behind != "") {
			return api.ErrForm
		}
	} else {
		last := k - 1
		for l[last].Indent > r.Indent {
			last--
		}
		if l[last].Indent < r.Indent || l[last].kind == isScalar || r.Dash != (l[last].kind == isDash) {
			return api.ErrForm
		}
		for _, x := range l[above(l, k)+1 : k] {
			if x.Indent == r.Indent {
				block = append(block, x)
			}
		}
	}
	in := inside(l, k)
	switch {
	case r.early != api.OK:
		return r.early
	case !begins && !r.Dash && r.kind != isKey:
		return api.ErrForm
	case begins && r.kind != isScalar && in == 32:
		return api.ErrDeep
	case r.form != api.OK:
		return r.form
	case r.kind == isKey && slices.ContainsFunc(block, func(x looked) bool { return x.key == r.key }):
		return api.ErrTwice
	}
	switch {
	case r.behind != "":
		_, e := scalarOf(r.behind, in+1)
		return e
	case r.kind == isScalar:
		_, e := scalarOf(r.Text, in)
		return e
	}
	return api.OK
}

// meant is the value of rows with which nothing is wrong.
func meant(l []looked) value.Value {
	if len(l) == 0 {
		return value.Value{}
	}
	if l[0].kind == isScalar {
		v, _ := scalarOf(l[0].Text, 0)
		return v
	}
	var list []value.Value
	var keys []value.Pair
	for i, r := range l {
		if r.Indent != l[0].Indent {
			continue
		}
		end := i + 1
		for end < len(l) && l[end].Indent > r.Indent {
			end++
		}
		v := meant(l[i+1 : end])
		if r.behind != "" {
			v, _ = scalarOf(r.behind, 0)
		}
		list = append(list, v)
		keys = append(keys, pair(r.key, v))
	}
	if l[0].kind == isDash {
		return value.Row(list...)
	}
	return value.Map(keys...)
}

// model is what Parse answers, by the chapter's words.
func model(s string) (value.Value, yaml.Mistake) {
	rows, line, e := ylines.Cut(s)
	if e != api.OK {
		return value.Value{}, yaml.Mistake{Line: line, Err: e}
	}
	l := make([]looked, len(rows))
	for i, r := range rows {
		l[i] = look(r)
	}
	for i, r := range l {
		if e := fault(l, i); e != api.OK {
			return value.Value{}, yaml.Mistake{Line: r.Line, Err: e}
		}
	}
	return meant(l), yaml.Mistake{}
}

// hold holds Parse against the model, and says what was wrong.
func hold(t *testing.T, s string) api.Errno {
	t.Helper()
	v, m := yaml.Parse(s)
	w, n := model(s)
	if m != n || !v.Same(w) {
		t.Fatalf("Parse(%.300q) is %.300v and %v, not %.300v and %v", s, v, m, w, n)
	}
	if m.Err == api.OK && v.Check() != api.OK {
		t.Fatalf("what is read of %.300q has the Check %v", s, v.Check())
	}
	if m.Err != api.OK && !zero(v) {
		t.Fatalf("of %.300q, which is no document, Parse answers %v", s, v)
	}
	return m.Err
}

// P11.1, P11.2: all texts of a few of the bytes that count.
func TestAllShortTexts(t *testing.T) {
	all(t, "a: \n-1\"", 6)
	all(t, "a: \n-", 7)
	all(t, "a:[]{} \"\\", 5)
}

// all holds all texts of up to so many of some bytes.
func all(t *testing.T, signs string, most int) {
	t.Helper()
	var from func(s string)
	from = func(s string) {
		hold(t, s)
		if len(s) < most {
			for _, c := range signs {
				from(s + string(c))
			}
		}
	}
	from("")
}

// pieces are what a line may have behind its indent, the right ones first.
var pieces = []string{
	"a:", "b:", "c: 1", "d: x", "- 1", "-", "- -", "- a:", "- b: 1", `"a":`, `"c": []`, "e: {}", "f: \"x: y\"", "- - c: 1", "x", "[]", "{}", "null", "g: null",
	"*", "h: *", "1: 1", "01", "- 01", "99999999999999999999", `"\q"`, `"\ud800": 1`, `"a"b`, `k: "a" b`, "null: 1", "a b: 1", "x y", "- []", "\"", "\t", "# x", "", "a: -", "i: a:b:", "a: b: c",
}

// P11.1, P11.2: random lines.
func TestRandomLines(t *testing.T) {
	r := rand.New(rand.NewSource(11))
	told := map[api.Errno]int{}
	for range 100000 {
		var b strings.Builder
		most, deep := 20+r.Intn(len(pieces)-19), 1+r.Intn(5)
		if r.Intn(2) == 0 {
			most = 13
		}
		for i := range 1 + r.Intn(9) {
			if i > 0 {
				b.WriteString(strings.Repeat(" ", r.Intn(deep)))
			}
			b.WriteString(pieces[r.Intn(most)] + strings.Repeat(" ", r.Intn(8)/6) + []string{"", "", "", " # x"}[r.Intn(4)] + "\n")
		}
		told[hold(t, b.String())]++
	}
	for _, e := range []api.Errno{api.OK, api.ErrForm, api.ErrTwice, api.ErrNumber, api.ErrRange, api.ErrText, api.ErrEnd} {
		if told[e] < 100 {
			t.Errorf("%v was told %d times only", e, told[e])
		}
	}
}

// laid writes a value at an indent, as it may be written in many ways, and says whether it may stand behind a key.
func laid(r *rand.Rand, v value.Value, indent int) (s string, short bool) {
	switch {
	case v.Kind == value.List && len(v.List) > 0:
		for _, x := range v.List {
			s += strings.Repeat(" ", indent) + "-" + below(r, x, indent, true)
		}
		return s, false
	case v.Kind == value.Keys && len(v.Keys) > 0:
		for _, p := range v.Keys {
			k := p.Key
			if !yaml.Key(k) || r.Intn(3) == 0 {
				k = utf.Quote(k)
			}
			s += strings.Repeat(" ", indent) + k + ":" + below(r, p.Value, indent, false)
		}
		return s, false
	case v.Kind == value.List:
		return "[]", true
	case v.Kind == value.Keys:
		return "{}", true
	case v.Kind == value.Int:
		return []string{"0", "-1", "1", "9223372036854775807", "-9223372036854775808"}[slices.Index(numbers, v.Int)], true
	case v.Kind == value.Flag && v.Flag:
		return "true", true
	case v.Kind == value.Flag:
		return "false", true
	case v.Kind == value.Null:
		return "null", true
	case !yaml.Key(v.Text) || r.Intn(2) == 0:
		return utf.Quote(v.Text), true
	}
	return v.Text, true
}

// below writes a value behind a dash, or a colon, of an indent, in its row or in those below.
func below(r *rand.Rand, v value.Value, indent int, dash bool) string {
	end := []string{"\n", "  \n", " # x: \"\n", "\n\n", "\n    # x\n"}[r.Intn(5)]
	if v.Kind == value.Null && r.Intn(2) == 0 {
		return end
	}
	more := 1 + r.Intn(3)
	s, short := laid(r, v, indent+1+more)
	switch {
	case r.Intn(2) == 0 && short:
		return strings.Repeat(" ", more) + s + end
	case r.Intn(2) == 0 && dash && !short:
		// The first row stands behind the dash, at its place.
		return s[indent+1:]
	case short:
		return end + strings.Repeat(" ", indent+more) + s + end
	}
	return end + s
}

// numbers are those of random values.
var numbers = []int64{0, -1, 1, 1<<63 - 1, -1 << 63}

// random is a value that lies at most so deep.
func random(r *rand.Rand, deep int) value.Value {
	texts := []string{"", "a", "b", "null", "a: b", "- a", "#", "é", "1", "a.b/c", "\"\\\n", " a ", "-", "[]"}
	n := 4
	if deep > 0 {
		n = 8
	}
	switch r.Intn(n) {
	case 0:
		return value.Value{}
	case 1:
		return value.Yes(r.Intn(2) == 0)
	case 2:
		return value.Whole(numbers[r.Intn(len(numbers))])
	case 3:
		return value.Of(texts[r.Intn(len(texts))])
	case 4, 5:
		var l []value.Value
		for range r.Intn(4) {
			l = append(l, random(r, deep-1))
		}
		return value.Row(l...)
	}
	var l []value.Pair
	for _, i := range r.Perm(len(texts))[:r.Intn(4)] {
		l = append(l, pair(texts[i], random(r, deep-1)))
	}
	return value.Map(l...)
}

// P11.1: what is written in any of its ways is read as it was.
func TestWritten(t *testing.T) {
	r := rand.New(rand.NewSource(11))
	for range 30000 {
		v := random(r, 1+r.Intn(6))
		s, short := laid(r, v, 0)
		if short {
			s += "\n"
		}
		read(t, s, v)
	}
}
