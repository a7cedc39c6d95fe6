package yaml_test

import (
	"strings"
	"testing"

	"bosun/api"
	"bosun/value"
	"bosun/yaml"
)

// P11.1: keys and dashes with nothing behind, in their row and below.
func TestNothingBehind(t *testing.T) {
	for s, v := range map[string]value.Value{
		lines("a:"):                            value.Map(pair("a", null)),
		lines("a:", "b:"):                      value.Map(pair("a", null), pair("b", null)),
		lines("a:", "b: 1"):                    value.Map(pair("a", null), pair("b", one)),
		lines(`"a":`, `"b":`):                  value.Map(pair("a", null), pair("b", null)),
		lines("-", "-", "-"):                   value.Row(null, null, null),
		lines("-", "- 1"):                      value.Row(null, one),
		lines("- 1", "-"):                      value.Row(one, null),
		lines("- -", "-"):                      value.Row(value.Row(null), null),
		lines("a:", "  b:", "c:"):              value.Map(pair("a", value.Map(pair("b", null))), pair("c", null)),
		lines("a:", "  b:", "  c:"):            value.Map(pair("a", value.Map(pair("b", null), pair("c", null)))),
		lines("-", "  -", "-"):                 value.Row(value.Row(null), null),
		lines("- a:", "- b:"):                  value.Row(value.Map(pair("a", null)), value.Map(pair("b", null))),
		lines("- a:", "  b:"):                  value.Row(value.Map(pair("a", null), pair("b", null))),
		lines("- a:", "", "-   # x", "- 1"):    value.Row(value.Map(pair("a", null)), null, one),
		lines("a:", "  -", "  -", "b:", "  -"): value.Map(pair("a", value.Row(null, null)), pair("b", value.Row(null))),
	} {
		read(t, s, v)
	}
}

// P11.1: blocks below keys and dashes, of whatever greater indent.
func TestBlocksBelow(t *testing.T) {
	for s, v := range map[string]value.Value{
		lines("a:", " b"):                               value.Map(pair("a", value.Of("b"))),
		lines("a:", "         b"):                       value.Map(pair("a", value.Of("b"))),
		lines("a:", " b: 1"):                            value.Map(pair("a", value.Map(pair("b", one)))),
		lines("a:", " - 1"):                             value.Map(pair("a", value.Row(one))),
		lines("a:", "  b: 1", "  c: 2"):                 value.Map(pair("a", value.Map(pair("b", one), pair("c", two)))),
		lines("a:", "  b: 1", "c: 2"):                   value.Map(pair("a", value.Map(pair("b", one))), pair("c", two)),
		lines("a:", " x", "b:", "   y", "c: z"):         value.Map(pair("a", value.Of("x")), pair("b", value.Of("y")), pair("c", value.Of("z"))),
		lines("a:", "    b: 1", "c:", " d: 2"):          value.Map(pair("a", value.Map(pair("b", one))), pair("c", value.Map(pair("d", two)))),
		lines("a:", "  - 1", "  - 2", "b: 3"):           value.Map(pair("a", value.Row(one, two)), pair("b", three)),
		lines("a:", "  - b: 1", "    c: 2", "  - 3"):    value.Map(pair("a", value.Row(value.Map(pair("b", one), pair("c", two)), three))),
		lines("a:", "  b:", "    c:", "      d"):        value.Map(pair("a", value.Map(pair("b", value.Map(pair("c", value.Of("d"))))))),
		lines("a:", " b:", "  c:", "d: 1"):              value.Map(pair("a", value.Map(pair("b", value.Map(pair("c", null))))), pair("d", one)),
		lines("a:", "  b:", "    c: 1", "  d: 2"):       value.Map(pair("a", value.Map(pair("b", value.Map(pair("c", one))), pair("d", two)))),
		lines("-", " a", "-", "    b", "- c"):           value.Row(value.Of("a"), value.Of("b"), value.Of("c")),
		lines("-", "  - 1", "  - 2", "- 3"):             value.Row(value.Row(one, two), three),
		lines("-", "  a: 1", "  b: 2", "-", " c: 3"):    value.Row(value.Map(pair("a", one), pair("b", two)), value.Map(pair("c", three))),
		lines("- a: 1", "- b: 2"):                       value.Row(value.Map(pair("a", one)), value.Map(pair("b", two))),
		lines("- a:", "    - 1", "  b: 2"):              value.Row(value.Map(pair("a", value.Row(one)), pair("b", two))),
		lines("- a:", "    b: 1"):                       value.Row(value.Map(pair("a", value.Map(pair("b", one))))),
		lines("- a:", "   b: 1", "  c: 2"):              value.Row(value.Map(pair("a", value.Map(pair("b", one))), pair("c", two))),
		lines("-    a: 1", "     b: 2", "-   c: 3"):     value.Row(value.Map(pair("a", one), pair("b", two)), value.Map(pair("c", three))),
		lines(`"a":`, `  "b": 1`, `"c":`, ` "d"`):       value.Map(pair("a", value.Map(pair("b", one))), pair("c", value.Of("d"))),
		lines("a:", "", "# x", "   # y", "  - 1 # z"):   value.Map(pair("a", value.Row(one))),
		lines("a:", "  # b: 1", "b: 1"):                 value.Map(pair("a", null), pair("b", one)),
		lines("a: 1", "      # x", "b: 2", "  # x", ""): value.Map(pair("a", one), pair("b", two)),
	} {
		read(t, s, v)
	}
}

// P11.1: several dashes in one row.
func TestDashesInOneRow(t *testing.T) {
	for s, v := range map[string]value.Value{
		"- - 1":                                   value.Row(value.Row(one)),
		"- - - 1":                                 value.Row(value.Row(value.Row(one))),
		"-   -":                                   value.Row(value.Row(null)),
		lines("- - 1", "- - 2"):                   value.Row(value.Row(one), value.Row(two)),
		lines("- - 1", "  - 2"):                   value.Row(value.Row(one, two)),
		lines("- - 1", "  - 2", "- 3"):            value.Row(value.Row(one, two), three),
		lines("-  - 1", "   - 2"):                 value.Row(value.Row(one, two)),
		lines("- - - 1", "    - 2", "  -"):        value.Row(value.Row(value.Row(one, two), null)),
		lines("- -", "    1", "  - 2"):            value.Row(value.Row(one, two)),
		lines("- - a: 1", "    b: 2", "  - c: 3"): value.Row(value.Row(value.Map(pair("a", one), pair("b", two)), value.Map(pair("c", three)))),
		lines("- - a:", "      - 1", "- 2"):       value.Row(value.Row(value.Map(pair("a", value.Row(one)))), two),
		lines("a:", "  - - 1", "    - 2"):         value.Map(pair("a", value.Row(value.Row(one, two)))),
	} {
		read(t, s, v)
	}
}

// P11.1: the same keys may stand in others, and in what is beside.
func TestKeysAgain(t *testing.T) {
	read(t, lines("a:", "  a:", "    a: 1", "b:", "  a: 2"), value.Map(pair("a", value.Map(pair("a", value.Map(pair("a", one))))), pair("b", value.Map(pair("a", two)))))
	read(t, lines("- a: 1", "- a: 2"), value.Row(value.Map(pair("a", one)), value.Map(pair("a", two))))
	read(t, lines("a: a", "A: a", `"a ": 1`, "a1: 1", `" a": 1`), value.Map(pair("a", value.Of("a")), pair("A", value.Of("a")), pair("a ", one), pair("a1", one), pair(" a", one)))
	read(t, lines("b: 1", "a: 2", "c: 3"), value.Map(pair("b", one), pair("a", two), pair("c", three)))
}

// P11.1: keys twice, plain and quoted.
func TestTwice(t *testing.T) {
	refused(t, lines("a: 1", "a: 2"), 1, api.ErrTwice)
	refused(t, lines("a:", `"a":`), 1, api.ErrTwice)
	refused(t, lines(`"a": 1`, "a: 2"), 1, api.ErrTwice)
	refused(t, lines(`"a": 1`, `"\u0061": 2`), 1, api.ErrTwice)
	refused(t, lines(`"": 1`, `b: 1`, `"":`), 2, api.ErrTwice)
	refused(t, lines("a: 1", "b: 2", "c: 3", "b: 4", "a: 5"), 3, api.ErrTwice)
	refused(t, lines("a:", "  b: 1", "a:"), 2, api.ErrTwice)
	refused(t, lines("a:", "  - b: 1", "    c: 1", "    b: 1", "a:"), 3, api.ErrTwice)
	refused(t, lines("- a: 1", "  a: 2"), 1, api.ErrTwice)
	refused(t, lines("é:"), 0, api.ErrForm)
	refused(t, lines(`"é":`, `"\u00e9": 1`), 1, api.ErrTwice)
	// Only of what is a key: and ahead of what is wrong behind it.
	refused(t, lines("a: 1", "a"), 1, api.ErrForm)
	refused(t, lines("a: 1", "a: *"), 1, api.ErrTwice)
	refused(t, lines("a: 1", `a: "\q"`), 1, api.ErrTwice)
	refused(t, lines("a: 1", "a: 01"), 1, api.ErrTwice)
	refused(t, lines("a: 1", `"a":b`), 1, api.ErrForm)
	refused(t, lines("null: 1", "null: 1"), 0, api.ErrForm)
}

// P11.1: rows that should not stand there, by their indents.
func TestIndents(t *testing.T) {
	for _, x := range []struct {
		s    string
		line int
	}{
		// The first row.
		{lines(" a"), 0}, {lines(" - 1"), 0}, {lines(" a: 1"), 0}, {lines("", "# x", "  a:"), 2}, {lines("  a", "b"), 0}, {lines(" a: 1", "a: 1"), 0},
		// Greater, behind a scalar.
		{lines("a", " b"), 1}, {lines("a", "  - b"), 1}, {lines("a", "  b: 1"), 1}, {lines("1", "", " 2"), 2}, {lines("[]", " x"), 1}, {lines("{}", " x: 1"), 1}, {lines("null", "  null"), 1}, {lines(`"a"`, ` "b"`), 1},
		{lines("- a", "   b"), 1}, {lines("- a", "   - b"), 1}, {lines("- a", "   b: 1"), 1}, {lines("-", "  a", "   b"), 2}, {lines("a:", "  b", "   c"), 2}, {lines("a:", "  b", "   c: 1"), 2}, {lines("a:", "  b", "    - 1"), 2},
		{lines("- - a", "     b"), 1}, {lines("a:", "  - b", "     c"), 2},
		// The same indent, or a smaller one, which is that of no block around.
		{lines("a", "b"), 1}, {lines("a", "- b"), 1}, {lines("a", "b: 1"), 1}, {lines("[]", "[]"), 1}, {lines("null", "null"), 1}, {lines("- a", "  b"), 1}, {lines("- a", "  - b"), 1}, {lines("- a", "  b: 1"), 1}, {lines("- a", " b"), 1},
		{lines("a:", "  b", "  c"), 2}, {lines("a:", "  b", " c"), 2}, {lines("a:", "  b", "  c: 1"), 2}, {lines("a:", "  b", " - 1"), 2}, {lines("a:", "  b", "  - 1"), 2}, {lines("-", "  a", "  - b"), 2}, {lines("-", "  a", " - b"), 2},
		// Greater, behind a key row with something behind.
		{lines("a: 1", " b: 2"), 1}, {lines("a: 1", "  - 2"), 1}, {lines("a: 1", "  b"), 1}, {lines("a: []", "  - 2"), 1}, {lines("a: {}", "  b: 2"), 1}, {lines("a: null", "  b: 2"), 1}, {lines(`a: ""`, "  b: 2"), 1},
		{lines("a: 1", "b: 2", " c: 3"), 2}, {lines("- a: 1", "   b: 2"), 1}, {lines("- a: 1", "    - 2"), 1}, {lines("a:", "  b: 1", "   c: 1"), 2}, {lines("a:", "  b: 1", "    c"), 2},
		// Another one than the block's, below it.
		{lines("a:", "  b: 1", " c: 2"), 2}, {lines("a:", "    b: 1", "  c: 2"), 2}, {lines("a:", "  - 1", " - 2"), 2}, {lines("a:", "  - 1", " b: 2"), 2}, {lines("a:", "  - 1", "   - 2"), 2}, {lines("- a: 1", " b: 2"), 1}, {lines("- - 1", " - 2"), 1},
		{lines("- - 1", "   - 2"), 1}, {lines("-", "    a: 1", "  b: 1"), 2}, {lines("a:", "  b:", "    c: 1", "   d: 2"), 3}, {lines("a:", "  b:", "    c: 1", " d: 2"), 3}, {lines("a:", "   b:", "      c: 1", "    d: 2"), 3},
		{lines("-   - 1", "  - 2"), 1}, {lines("- -   - 1", "    - 2"), 1}, {lines("-   a: 1", "  b: 2", "- 3"), 1}, {lines("a:", "  b:", "c:", " d:", "  e: 1", "   f: 2", "g:"), 5},
	} {
		refused(t, x.s, x.line, api.ErrForm)
		refused(t, x.s+"\n", x.line, api.ErrForm)
		refused(t, x.s+"\n*\n\"\\q\"\n  x", x.line, api.ErrForm)
		// In a block of an indent that is greater all is likewise, but for what the first row has to have.
		if !strings.HasPrefix(strings.TrimLeft(x.s, "\n# x"), " ") && x.s[0] != ' ' && x.s[0] != '\n' {
			refused(t, "k:\n   "+strings.ReplaceAll(x.s, "\n", "\n   "), x.line+1, api.ErrForm)
			refused(t, "-\n "+strings.ReplaceAll(x.s, "\n", "\n "), x.line+1, api.ErrForm)
			refused(t, "- "+strings.ReplaceAll(x.s, "\n", "\n  "), x.line, api.ErrForm)
		}
	}
}

// P11.1: dashes among keys, keys among dashes, scalars among both.
func TestAmongOthers(t *testing.T) {
	for _, x := range []struct {
		s    string
		line int
	}{
		{lines("a: 1", "- 2"), 1}, {lines("a:", "- 2"), 1}, {lines("a:", "-"), 1}, {lines("a:", "  - 1", "- 2"), 2}, {lines("a:", "  b: 1", "  - 2"), 2}, {lines("a: 1", "- a: 1"), 1}, {lines("a:", "- b: 1", "  c: 1"), 1},
		{lines("- 1", "a: 2"), 1}, {lines("-", "a: 2"), 1}, {lines("-", "a:"), 1}, {lines("- a: 1", "a: 2"), 1}, {lines("-", "  - 1", "  a: 2"), 2}, {lines("- - 1", "  a: 1"), 1},
		{lines("a: 1", "b"), 1}, {lines("a:", "b"), 1}, {lines("a:", "  b", "c"), 2}, {lines("a: 1", "[]"), 1}, {lines("a: 1", "null"), 1}, {lines("a: 1", "1"), 1}, {lines("a: 1", `"b"`), 1}, {lines("a: 1", "b: 2", "c", "d: 3"), 2},
		{lines("a: 1", "b c"), 1}, {lines("a: 1", "b:c"), 1}, {lines("a: 1", "01"), 1}, {lines("a: 1", "*"), 1},
		{lines("- 1", "b"), 1}, {lines("-", "b"), 1}, {lines("- 1", "- 2", "3"), 2}, {lines("- 1", "[]"), 1}, {lines("- 1", `"b"`), 1}, {lines("- a: 1", "b"), 1}, {lines("- a: 1", "  b"), 1}, {lines("-", "  - 1", "  b"), 2},
	} {
		refused(t, x.s, x.line, api.ErrForm)
		refused(t, x.s+"\na: 1", x.line, api.ErrForm)
		refused(t, "k:\n  "+strings.ReplaceAll(x.s, "\n", "\n  "), x.line+1, api.ErrForm)
		refused(t, "- "+strings.ReplaceAll(x.s, "\n", "\n  "), x.line, api.ErrForm)
	}
	// Dashes stand deeper than the key above them.
	read(t, lines("a:", " - 1", " - 2", "b:"), value.Map(pair("a", value.Row(one, two)), pair("b", null)))
}

// P11.1: layer 10's errors come ahead of all others, with their lines.
func TestErrorsOfRows(t *testing.T) {
	for s, e := range map[string]api.Errno{"\"": api.ErrEnd, "a: \"b": api.ErrEnd, "\ta": api.ErrText, "a\r": api.ErrText, "\xff": api.ErrText, "# \x00": api.ErrText} {
		refused(t, s, 0, e)
		for _, ahead := range []string{"\n", "  x\n", "*\n", "a: 1\na: 1\n", "\"\\q\"\n", "01\n\n", "- 1\na: 1\n", "- - *\n"} {
			refused(t, ahead+s, strings.Count(ahead, "\n"), e)
			refused(t, ahead+s+"\n\t", strings.Count(ahead, "\n"), e)
		}
	}
	long := strings.Repeat(" ", 1<<20)
	read(t, long, null)
	refused(t, long+" ", 0, api.ErrLong)
	refused(t, "*\n\t"+long, 0, api.ErrLong)
	read(t, long[1:]+"\n", null)
	refused(t, long[1:]+"a", 0, api.ErrForm)
	read(t, "- 1"+long[3:], value.Row(one))
}

// P11.1: which of two errors of one row is told.
func TestOrderInARow(t *testing.T) {
	for _, x := range []struct {
		s    string
		line int
		e    api.Errno
	}{
		// It should not stand there, ahead of all that is wrong with its text.
		{lines(` "\ud800"`), 0, api.ErrForm}, {lines(`a: 1`, ` "\ud800": 1`), 1, api.ErrForm}, {lines(`- 1`, `"\ud800"`), 1, api.ErrForm}, {lines(`a`, `"\ud800"`), 1, api.ErrForm}, {lines("a: 1", " a: 1"), 1, api.ErrForm}, {lines("- 1", "01"), 1, api.ErrForm},
		{lines("a", "01"), 1, api.ErrForm}, {lines("a:", "  b: 1", " b: 1"), 2, api.ErrForm},
		// Its quoted part, ahead of that it is no key row, and of what is behind.
		{lines(`a: 1`, `"\ud800"`), 1, api.ErrText}, {lines(`a: 1`, `"\ud800": 01`), 1, api.ErrText}, {lines(`"\ud800" x`), 0, api.ErrText}, {lines(`"\ud800":b`), 0, api.ErrText}, {lines(`a: "\ud800" x`), 0, api.ErrText}, {lines(`"a" "\ud800"`), 0, api.ErrForm},
		{lines(`"a": "\ud800"`), 0, api.ErrText}, {lines(`"a":"\ud800"`), 0, api.ErrForm}, {lines(`"\q": "\ud800"`), 0, api.ErrForm}, {lines(`"\ud800": "\q"`), 0, api.ErrText},
		// Its key, ahead of what is behind.
		{lines("1: 01"), 0, api.ErrForm}, {lines(`a b: "\ud800"`), 0, api.ErrForm}, {lines(`: 99999999999999999999`), 0, api.ErrForm}, {lines("null: 01"), 0, api.ErrForm}, {lines("a: 1", "a: 01"), 1, api.ErrTwice},
		// It is no key row, ahead of what it would be as a scalar.
		{lines("a: 1", "01"), 1, api.ErrForm}, {lines("a: 1", "99999999999999999999"), 1, api.ErrForm}, {lines("a: 1", `"b"`), 1, api.ErrForm},
	} {
		refused(t, x.s, x.line, x.e)
		refused(t, x.s+"\n*", x.line, x.e)
	}
}

// P11.1: the first of two rows that are wrong is told, whatever is wrong with them.
func TestOrderOfRows(t *testing.T) {
	wrong := map[string]api.Errno{"k: 01": api.ErrNumber, "k: *": api.ErrForm, "k: 99999999999999999999": api.ErrRange, `k: "\ud800"`: api.ErrText, "a: 2": api.ErrTwice, "- 1": api.ErrForm, "x": api.ErrForm, " k: 1": api.ErrForm, `"\ud800": 1`: api.ErrText, "1: 1": api.ErrForm}
	// With nothing of their block ahead of them these are right.
	right := map[string]bool{"a: 2": true, "- 1": true, "x": true, " k: 1": true}
	for s, e := range wrong {
		for u := range wrong {
			refused(t, lines("a: 1", s, u), 1, e)
			refused(t, lines("a: 1", "b:", "  c: 1", "", s, "  x: 1", u), 4, e)
			if right[s] {
				refused(t, lines("a: 1", "b:", "  "+s, u), 3, wrong[u])
			} else {
				refused(t, lines("a: 1", "b:", "  "+s, u), 2, e)
			}
		}
	}
}

// P11.1: rows of one line are looked at one by one, from the left.
func TestRowsOfOneLine(t *testing.T) {
	refused(t, lines("a: 1", "- *"), 1, api.ErrForm)
	refused(t, lines("a: 1", "- 01"), 1, api.ErrForm)
	refused(t, "- 01", 0, api.ErrNumber)
	refused(t, lines("- - 1", "  x"), 1, api.ErrForm)
	refused(t, lines("- - 1", " - 01"), 1, api.ErrForm)
	refused(t, lines("- - 1", "- - 01"), 1, api.ErrNumber)
}

// P11.2: what is read may be, and texts of the document aren't needed for it any more.
func TestWhatIsRead(t *testing.T) {
	s := lines("a:", "  - b: \"x # y\"", "    \"c d\": -1", "  - []", "e: {}")
	v, m := yaml.Parse(strings.Clone(s))
	w, n := yaml.Parse(s)
	if m != n || !v.Same(w) || v.Check() != api.OK {
		t.Errorf("Parse(%q) is %v, %v and then %v, %v", s, v, m, w, n)
	}
	v.Keys[0].Value.List[0].Keys[0].Value = null
	if x, _ := yaml.Parse(s); !x.Same(w) {
		t.Errorf("Parse(%q) is %v, once what was answered is changed", s, x)
	}
}
