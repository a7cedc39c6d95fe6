package yaml_test

import (
	"math"
	"strings"
	"testing"

	"bosun/api"
	"bosun/value"
	"bosun/yaml"
)

func pair(key string, v value.Value) value.Pair { return value.Pair{Key: key, Value: v} }

// lines is a document of such lines.
func lines(l ...string) string { return strings.Join(l, "\n") }

// read holds that a document has a value, one that may be.
func read(t *testing.T, s string, want value.Value) {
	t.Helper()
	v, m := yaml.Parse(s)
	if m != (yaml.Mistake{}) || !v.Same(want) {
		t.Errorf("Parse(%.200q) is %v and %v, not %v", s, v, m, want)
	}
	if e := v.Check(); e != api.OK {
		t.Errorf("what is read of %.200q has the Check %v", s, e)
	}
}

// refused holds that a text is no document, for which error, and in which line, and that nothing else is answered.
func refused(t *testing.T, s string, line int, e api.Errno) {
	t.Helper()
	v, m := yaml.Parse(s)
	if m.Line != line || m.Err != e {
		t.Errorf("Parse(%.200q) is wrong in line %d: %v, not in line %d: %v", s, m.Line, m.Err, line, e)
	}
	if !zero(v) {
		t.Errorf("of %.200q, which is no document, Parse answers %v", s, v)
	}
}

// zero says whether a value is the zero one, in what plays no part, too.
func zero(v value.Value) bool {
	return v.Kind == 0 && !v.Flag && v.Int == 0 && v.Text == "" && len(v.List) == 0 && len(v.Keys) == 0
}

// Some values.
var (
	null  = value.Value{}
	one   = value.Whole(1)
	two   = value.Whole(2)
	three = value.Whole(3)
)

// P11.1: the chapter's example.
func TestExample(t *testing.T) {
	read(t, "a:\n  - 1", value.Map(pair("a", value.Row(one))))
}

// P11.1: a text without rows is null.
func TestNoRows(t *testing.T) {
	for _, s := range []string{"", "\n", "  ", " \n\n  \n", "# x", "  # x\n# - a: 1\n", "#"} {
		read(t, s, null)
	}
}

// scalars are some, and their values.
func scalars() map[string]value.Value {
	l := map[string]value.Value{
		`null`: null, `true`: value.Yes(true), `false`: value.Yes(false),
		`[]`: value.Row(), `{}`: value.Map(),
		`0`: value.Whole(0), `-0`: value.Whole(0), `7`: value.Whole(7), `-12`: value.Whole(-12), `100`: value.Whole(100),
		`9223372036854775807`: value.Whole(math.MaxInt64), `-9223372036854775808`: value.Whole(math.MinInt64),
		`""`: value.Of(""), `" "`: value.Of(" "), `"null"`: value.Of("null"), `"1"`: value.Of("1"), `"[]"`: value.Of("[]"), `"a: 1"`: value.Of("a: 1"),
		`"- 1"`: value.Of("- 1"), `"a # b"`: value.Of("a # b"), `"a:"`: value.Of("a:"), `"\"\\\/\b\f\n\r\t"`: value.Of("\"\\/\b\f\n\r\t"),
		`"\u00e9\ud83d\ude00é"`: value.Of("é😀é"),
	}
	for _, s := range []string{
		"a", "A", "Z", "z", "nginx", "Null", "TRUE", "nulls", "truefalse", "fals", "a1", "a-", "x.y_z/1:2@3+4-5", "nginx:1.25", "docker.io/a/b:c@sha256:00",
		".", "_", "/", "@", "+", "+1", ".5", "_1", "/dev", ":x", "a:b", "a:b:c", ":1", "@a", "e1",
	} {
		l[s] = value.Of(s)
	}
	return l
}

// P11.1: scalars alone, behind dashes, and behind keys, in the same row and in the next one.
func TestScalars(t *testing.T) {
	for s, v := range scalars() {
		read(t, s, v)
		read(t, s+"\n", v)
		read(t, "\n# x\n"+s+"  # y\n\n", v)
		read(t, "- "+s, value.Row(v))
		read(t, "-    "+s, value.Row(v))
		read(t, "-\n  "+s, value.Row(v))
		read(t, "-\n "+s+"\n-\n   "+s, value.Row(v, v))
		read(t, "- "+s+"\n- "+s, value.Row(v, v))
		read(t, "- - "+s, value.Row(value.Row(v)))
		read(t, "a: "+s, value.Map(pair("a", v)))
		read(t, "a:   "+s+"  ", value.Map(pair("a", v)))
		read(t, `"a": `+s, value.Map(pair("a", v)))
		read(t, "a:\n  "+s, value.Map(pair("a", v)))
		read(t, "a: # x\n\n   "+s+"\nb: "+s, value.Map(pair("a", v), pair("b", v)))
		read(t, "- a: "+s+"\n  b:\n   "+s, value.Row(value.Map(pair("a", v), pair("b", v))))
	}
}

// P11.1: what a value has no use for stays zero.
func TestNothingBeside(t *testing.T) {
	for s, v := range scalars() {
		got, _ := yaml.Parse(s)
		if got.Flag != v.Flag || got.Int != v.Int || got.Text != v.Text || len(got.List) != 0 || len(got.Keys) != 0 {
			t.Errorf("Parse(%q) is %v, not %v", s, got, v)
		}
	}
}

// badScalars are texts that are no scalars, and no key rows, and why.
func badScalars() map[string]api.Errno {
	return map[string]api.Errno{
		// What begins with a digit or - is a whole number.
		"01": api.ErrNumber, "-01": api.ErrNumber, "00": api.ErrNumber, "1.5": api.ErrNumber, "1a": api.ErrNumber, "0x1": api.ErrNumber, "1:2": api.ErrNumber, "1/2": api.ErrNumber,
		"-a": api.ErrNumber, "--": api.ErrNumber, "--1": api.ErrNumber, "-1-": api.ErrNumber, "1+1": api.ErrNumber, "1_0": api.ErrNumber, "1e3": api.ErrNumber, "-.": api.ErrNumber, "1@": api.ErrNumber,
		"9223372036854775808": api.ErrRange, "-9223372036854775809": api.ErrRange, "99999999999999999999": api.ErrRange,
		// What is neither quoted, nor a plain word.
		"a b": api.ErrForm, "1 2": api.ErrForm, "null null": api.ErrForm, "a*": api.ErrForm, "*": api.ErrForm, "&a": api.ErrForm, "é": api.ErrForm, "aé": api.ErrForm, "1é": api.ErrForm, "a\"b\"": api.ErrForm,
		"'a'": api.ErrForm, "a,b": api.ErrForm, ",": api.ErrForm, "|": api.ErrForm, ">": api.ErrForm, "!": api.ErrForm, "a=b": api.ErrForm, "~": api.ErrForm, "\\": api.ErrForm, "a#b": api.ErrForm, "\x7f": api.ErrForm,
		"[ ]": api.ErrForm, "[": api.ErrForm, "]": api.ErrForm, "[1]": api.ErrForm, "[[]]": api.ErrForm, "[]]": api.ErrForm, "[] 1": api.ErrForm, "[][]": api.ErrForm, "[]a": api.ErrForm, "[]{}": api.ErrForm,
		"{ }": api.ErrForm, "{": api.ErrForm, "}": api.ErrForm, "{a}": api.ErrForm, "{{}}": api.ErrForm, "{}}": api.ErrForm, "{} x": api.ErrForm, "{}[]": api.ErrForm, "{a:1}": api.ErrForm,
		// What begins with a quoted text.
		`"\q"`: api.ErrForm, `"\u00g0"`: api.ErrForm, `"\ud800"`: api.ErrText, `"\udc00"`: api.ErrText, `"\ud800x"`: api.ErrText,
		`"a"b`: api.ErrForm, `"a" b`: api.ErrForm, `"a""b"`: api.ErrForm, `"a" "b"`: api.ErrForm, `""a`: api.ErrForm, `"a" :`: api.ErrForm, `"a":b`: api.ErrForm, `"a"::`: api.ErrForm, `"a",`: api.ErrForm,
		`"` + strings.Repeat("x", 4097) + `"`: api.ErrLong,
	}
}

// P11.1: texts that are no scalars, alone, behind dashes and behind keys.
func TestBadScalars(t *testing.T) {
	for s, e := range badScalars() {
		refused(t, s, 0, e)
		refused(t, "\n\n"+s+"\n\n", 2, e)
		refused(t, "- "+s, 0, e)
		refused(t, "- 1\n- "+s, 1, e)
		refused(t, "- - "+s, 0, e)
		refused(t, "-\n   "+s, 1, e)
		refused(t, "a: "+s, 0, e)
		refused(t, "a:\n  "+s, 1, e)
		refused(t, "a: 1\nb: "+s, 1, e)
		refused(t, "a: 1\n\nb:\n\n  "+s+"\nc:\n- x", 4, e)
		refused(t, `"a": `+s, 0, e)
		refused(t, "- a: "+s, 0, e)
		// Nothing behind it shows any more.
		refused(t, s+"\n   x", 0, e)
		refused(t, "a: "+s+"\na: 1", 0, e)
	}
}

// P11.1: a colon at a row's end, or ahead of a blank, makes it a key row, whatever stands ahead of it.
func TestKeyRowsOrScalars(t *testing.T) {
	for s, v := range map[string]value.Value{
		"a:":           value.Map(pair("a", null)),
		"a: b":         value.Map(pair("a", value.Of("b"))),
		"a:    b":      value.Map(pair("a", value.Of("b"))),
		"a:b":          value.Of("a:b"),
		"a:b:c":        value.Of("a:b:c"),
		":a":           value.Of(":a"),
		"a: b:":        value.Map(pair("a", value.Of("b:"))),
		"a: b:c":       value.Map(pair("a", value.Of("b:c"))),
		"a: :":         value.Map(pair("a", value.Of(":"))),
		"a: ::":        value.Map(pair("a", value.Of("::"))),
		"a: \"b: c\"":  value.Map(pair("a", value.Of("b: c"))),
		"\"a\":":       value.Map(pair("a", null)),
		"\"a\": b":     value.Map(pair("a", value.Of("b"))),
		"\"a\":   b":   value.Map(pair("a", value.Of("b"))),
		"\"a: b\": c":  value.Map(pair("a: b", value.Of("c"))),
		"\"a: b\":":    value.Map(pair("a: b", null)),
		"\"a: b\"":     value.Of("a: b"),
		"\"a:\"":       value.Of("a:"),
		"\"a\": \"b\"": value.Map(pair("a", value.Of("b"))),
		"\"\": \"\"":   value.Map(pair("", value.Of(""))),
		"\"\\\"\": 1":  value.Map(pair("\"", one)),
		"\"\\n\":":     value.Map(pair("\n", null)),
		"a: # b":       value.Map(pair("a", null)),
	} {
		read(t, s, v)
		read(t, "- "+s, value.Row(v))
		read(t, "k:\n   "+s, value.Map(pair("k", v)))
	}
	for _, s := range []string{
		"a: b: c", "a: b :", "a: : b", ": a", ":", "::", ": :", "a::", "a:b:", "a:b: c", "a:: b", "1:", "1: 2", "-1:", "-a: b", "a b:", "a b: c", "a : b", "a :", "null:", "true:", "false: 1", "null: null",
		"é:", "é: 1", "a*: 1", "*:", ".:", ".a: 1", "/a: 1", "@a: 1", "a@b: 1", "a+: 1", "+:", "{}:", "[]: 1", "{a: 1}", "{a: }", "[a: 1]", "a\"b\": 1", "a\"b: c\"", "a\"b:\"", "\\: 1", "'a': 1", "? a: 1",
	} {
		for _, ahead := range []string{"", "- ", "-    ", "k:\n  ", "- x: 1\n  y:\n    ", "k: 1\n"} {
			refused(t, ahead+s, strings.Count(ahead, "\n"), api.ErrForm)
		}
	}
}

// P11.1: keys, plain and quoted.
func TestKeys(t *testing.T) {
	for _, k := range []string{"a", "Z", "_", "__", "a1", "_1", "a.b", "a_b", "a/b", "a-b", "a-", "a.", "a/", "a_", "Null", "nulls", "TRUE", "truth", "n", "false0", "app.kubernetes.io/name", "x-1"} {
		read(t, k+": 1", value.Map(pair(k, one)))
		read(t, k+":", value.Map(pair(k, null)))
		read(t, `"`+k+`": 1`, value.Map(pair(k, one)))
		read(t, "- x: 2\n  "+k+": 1", value.Row(value.Map(pair("x", two), pair(k, one))))
		if !yaml.Key(k) {
			t.Errorf("%q is no plain key", k)
		}
	}
	for _, k := range []string{"", " ", "null", "true", "false", "1", "0a", "-", "-a", ".", ".a", "/", "/a", "a b", " a", "a ", "a:", "a:b", ":", "a@", "@", "a+b", "+", "é", "aé", "a\xff", "a#", "[]", "{}", "a\n", "\x00", "a,b", "a*"} {
		if yaml.Key(k) {
			t.Errorf("%q is a plain key", k)
		}
	}
	for _, k := range []string{"", " ", "null", "true", "false", "1", "-", "a b", ":", "a: b", "é", "#", " # ", "[]", "{}", "a:"} {
		read(t, `"`+k+`": 1`, value.Map(pair(k, one)))
		read(t, "- \""+k+"\": 1", value.Row(value.Map(pair(k, one))))
		read(t, "x: 1\n\""+k+"\":\n  - 2", value.Map(pair("x", one), pair(k, value.Row(two))))
	}
}

// P11.1: each byte in a plain word, and in a plain key.
func TestBytes(t *testing.T) {
	const letters = "ABCDEFGHIJKLMNOPQRSTUVWXYZabcdefghijklmnopqrstuvwxyz"
	for i := range 256 {
		c := string([]byte{byte(i)})
		in := func(l string) bool { return strings.Contains(l, c) }
		for s, want := range map[string]bool{c: in(letters + "_"), "a" + c: in(letters + "0123456789._/-"), "_" + c + "x": in(letters + "0123456789._/-")} {
			if yaml.Key(s) != want {
				t.Errorf("Key(%q) is %v", s, !want)
			}
		}
		if i < ' ' || i >= 0x80 {
			for _, s := range []string{c, "a" + c, "a" + c + "b", "a: " + c} {
				if c != "\n" {
					refused(t, s, 0, api.ErrText)
				}
			}
			continue
		}
		// Those that mean something else there are looked at elsewhere.
		if in(" \"#") {
			continue
		}
		for _, s := range []string{"a" + c + "b", "+" + c + "-"} {
			if in(letters + "0123456789._/:@+-") {
				read(t, s, value.Of(s))
				read(t, "a: "+s, value.Map(pair("a", value.Of(s))))
			} else {
				refused(t, s, 0, api.ErrForm)
				refused(t, "a: "+s, 0, api.ErrForm)
			}
		}
		switch {
		case in(letters + "_./@+"):
			read(t, "- "+c, value.Row(value.Of(c)))
			read(t, "a: "+c, value.Map(pair("a", value.Of(c))))
		case c == ":":
			read(t, "a: "+c, value.Map(pair("a", value.Of(c))))
		case in("0123456789"):
			read(t, "- "+c, value.Row(value.Whole(int64(i-'0'))))
		case c == "-":
			refused(t, "a: -", 0, api.ErrNumber)
		default:
			refused(t, "- "+c, 0, api.ErrForm)
			refused(t, "a: "+c, 0, api.ErrForm)
		}
		if in(letters + "0123456789._/-") {
			read(t, "a"+c+": 1", value.Map(pair("a"+c, one)))
		} else {
			refused(t, "a"+c+": 1", 0, api.ErrForm)
		}
	}
}

// P11.1: a - alone is a dash, and no number; behind a colon it is no number, either.
func TestDashAlone(t *testing.T) {
	read(t, "-", value.Row(null))
	read(t, "- -", value.Row(value.Row(null)))
	read(t, "-\n-", value.Row(null, null))
	read(t, "a:\n  -", value.Map(pair("a", value.Row(null))))
	refused(t, "a: -", 0, api.ErrNumber)
	refused(t, "a: - 1", 0, api.ErrForm)
	refused(t, "a: - b: 1", 0, api.ErrForm)
}
