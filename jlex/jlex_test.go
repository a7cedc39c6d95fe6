package jlex_test

import (
	"slices"
	"strings"
	"testing"

	"bosun/api"
	"bosun/jlex"
)

// blanks are what may stand ahead of words, each alone, and all together.
var blanks = []string{"", " ", "\t", "\n", "\r", " \t\n\r", "\r\n \t  ", strings.Repeat(" ", 5000)}

// nothingBut are texts that each are one word, whatever stands beside them.
var nothingBut = map[string]jlex.Token{
	"{":                {Kind: jlex.Open},
	"}":                {Kind: jlex.Close},
	"[":                {Kind: jlex.Begin},
	"]":                {Kind: jlex.Stop},
	":":                {Kind: jlex.Colon},
	",":                {Kind: jlex.Comma},
	`""`:               {Kind: jlex.Text},
	`"a b"`:            {Kind: jlex.Text, Text: "a b"},
	`"\u00e9\n\"\\"`:   {Kind: jlex.Text, Text: "é\n\"\\"},
	`"\ud83d\ude00é€"`: {Kind: jlex.Text, Text: "😀é€"},
	`"{[:,]}"`:         {Kind: jlex.Text, Text: "{[:,]}"},
	`"null"`:           {Kind: jlex.Text, Text: "null"},
	`"1"`:              {Kind: jlex.Text, Text: "1"},
	`null`:             {Kind: jlex.Null},
	`true`:             {Kind: jlex.True},
	`false`:            {Kind: jlex.False},
	`0`:                {Kind: jlex.Int},
	`-0`:               {Kind: jlex.Int},
	`7`:                {Kind: jlex.Int, Int: 7},
	`-120`:             {Kind: jlex.Int, Int: -120},
}

// lexed holds that a text has these words, and nothing wrong.
func lexed(t *testing.T, s string, want ...jlex.Token) {
	t.Helper()
	l, at, e := jlex.Lex(s)
	if at != 0 || e != api.OK {
		t.Errorf("Lex(%.200q) is wrong at %d: %v", s, at, e)
		return
	}
	if !slices.Equal(l, want) {
		t.Errorf("Lex(%.200q) is %v, not %v", s, l, want)
	}
}

// refused holds that a text has no words, for which error, and where.
func refused(t *testing.T, s string, at int, e api.Errno) {
	t.Helper()
	if l, n, x := jlex.Lex(s); len(l) != 0 || n != at || x != e {
		t.Errorf("Lex(%.200q) is %.200v, %d and %v, not %d and %v", s, l, n, x, at, e)
	}
}

// placed is a word at its place.
func placed(w jlex.Token, at int) jlex.Token {
	w.At = at
	return w
}

// end is the word at a text's end.
func end(at int) jlex.Token { return jlex.Token{Kind: jlex.End, At: at} }

// P7.1: the numbers of the Kinds.
func TestKinds(t *testing.T) {
	l := []jlex.Kind{
		jlex.Open, jlex.Close, jlex.Begin, jlex.Stop, jlex.Colon, jlex.Comma,
		jlex.Text, jlex.Null, jlex.True, jlex.False, jlex.Int, jlex.End,
	}
	for i, k := range l {
		if int(k) != i {
			t.Errorf("the Kind %d is %d", i, k)
		}
	}
}

// P7.1: the chapter's example.
func TestExample(t *testing.T) {
	lexed(t, "[1]",
		jlex.Token{Kind: jlex.Begin, At: 0}, jlex.Token{Kind: jlex.Int, Int: 1, At: 1}, jlex.Token{Kind: jlex.Stop, At: 2}, end(3))
}

// P7.1: a text without words has End alone.
func TestNoWords(t *testing.T) {
	for _, s := range blanks {
		lexed(t, s, end(len(s)))
	}
}

// P7.1: each kind of word alone, with and without blanks ahead and behind.
func TestOneWord(t *testing.T) {
	for s, w := range nothingBut {
		for _, ahead := range blanks {
			for _, behind := range blanks {
				text := ahead + s + behind
				lexed(t, text, placed(w, len(ahead)), end(len(text)))
			}
		}
	}
}

// isWordy says whether a word may run into another one that is likewise.
func isWordy(s string) bool { return strings.Trim(s, "-0123456789abcdefghijklmnopqrstuvwxyz") == "" }

// P7.1: each word ahead of each other, with and without blanks between.
func TestTwoWords(t *testing.T) {
	for s, w := range nothingBut {
		for z, x := range nothingBut {
			for _, between := range blanks {
				if between == "" && isWordy(s) && isWordy(z) {
					continue
				}
				text := s + between + z
				lexed(t, text, w, placed(x, len(s+between)), end(len(text)))
			}
		}
	}
}

// P7.1: words behind which no blank need stand, though they have letters or digits.
func TestWordsThatTouch(t *testing.T) {
	word := func(k jlex.Kind, at int) jlex.Token { return jlex.Token{Kind: k, At: at} }
	number := func(n int64, at int) jlex.Token { return jlex.Token{Kind: jlex.Int, Int: n, At: at} }
	text := func(s string, at int) jlex.Token { return jlex.Token{Kind: jlex.Text, Text: s, At: at} }
	lexed(t, `true1`, word(jlex.True, 0), number(1, 4), end(5))
	lexed(t, `null-12`, word(jlex.Null, 0), number(-12, 4), end(7))
	lexed(t, `false"a"true`, word(jlex.False, 0), text("a", 5), word(jlex.True, 8), end(12))
	lexed(t, `1"a"2`, number(1, 0), text("a", 1), number(2, 4), end(5))
	lexed(t, `"a""b"`, text("a", 0), text("b", 3), end(6))
	lexed(t, `{"a":[1,null]}`,
		word(jlex.Open, 0), text("a", 1), word(jlex.Colon, 4), word(jlex.Begin, 5), number(1, 6), word(jlex.Comma, 7),
		word(jlex.Null, 8), word(jlex.Stop, 12), word(jlex.Close, 13), end(14))
	lexed(t, "\t}\r\n,, :]\n", word(jlex.Close, 1), word(jlex.Comma, 4), word(jlex.Comma, 5), word(jlex.Colon, 7), word(jlex.Stop, 8), end(10))
}

// P7.1: letters that are no word, as many as stand in a row.
func TestLetters(t *testing.T) {
	for _, s := range []string{
		"n", "nul", "nulll", "Null", "NULL", "nuLl", "True", "TRUE", "tru", "truE", "truee", "False", "fals", "falsey", "xnull", "nullnull",
		"truefalse", "truetrue", "nulltrue", "a", "z", "A", "Z", "e", "E", "NaN", "Infinity", "undefined", "u", strings.Repeat("null", 1000),
	} {
		for _, ahead := range []string{"", " ", "\n\t", "[", `"a"`, `{"a":`, "],"} {
			for _, behind := range []string{"", " ", "1", "-", "]", `"`, "é", "\x00", ".", "+", "null"} {
				refused(t, ahead+s+behind, len(ahead), api.ErrForm)
			}
		}
	}
	refused(t, "1 nul", 2, api.ErrForm)
	refused(t, "true2x", 4, api.ErrNumber)
	refused(t, "null\x00", 4, api.ErrForm)
}

// P7.1: all bytes, of which some begin a word.
func TestFirstBytes(t *testing.T) {
	for b := range 256 {
		c := string([]byte{byte(b)})
		switch {
		case strings.Contains("{}[]:,", c) || '0' <= b && b <= '9':
			if _, _, e := jlex.Lex(c); e != api.OK {
				t.Errorf("Lex(%q) answers %v", c, e)
			}
		case strings.Contains(" \t\n\r", c):
			lexed(t, c, end(1))
			lexed(t, c+"null"+c, jlex.Token{Kind: jlex.Null, At: 1}, end(6))
		case c == `"`:
			refused(t, c, 0, api.ErrEnd)
		case c == "-":
			refused(t, c, 0, api.ErrNumber)
		default:
			refused(t, c, 0, api.ErrForm)
			refused(t, c+"1", 0, api.ErrForm)
			refused(t, " "+c, 1, api.ErrForm)
			refused(t, `["`+"\u00e9"+`",`+c+`]`, 6, api.ErrForm)
		}
	}
	for _, s := range []string{"\ufeff", "\u00a0", "\u2028", "é", "٣", "＋1", "'a'", "/**/", "//", "#", "+1", ".5", "_a", "\\u0041"} {
		refused(t, s, 0, api.ErrForm)
		refused(t, "[] "+s, 3, api.ErrForm)
	}
}

// P7.1: what is wrong with a quoted text, at the place where that begins.
func TestQuotedErrors(t *testing.T) {
	for s, e := range map[string]api.Errno{
		`"`:                                   api.ErrEnd,
		`"a`:                                  api.ErrEnd,
		`"a\`:                                 api.ErrEnd,
		`"a\"`:                                api.ErrEnd,
		`"\u00`:                               api.ErrEnd,
		`"\ud800\u`:                           api.ErrEnd,
		`"\q"`:                                api.ErrForm,
		`"\`:                                  api.ErrEnd,
		`"\u00g0"`:                            api.ErrForm,
		"\"\n\"":                              api.ErrText,
		"\"\t\"":                              api.ErrText,
		"\"a\x00\"":                           api.ErrText,
		"\"\xff\"":                            api.ErrText,
		"\"\xc3\"":                            api.ErrText,
		`"\ud800"`:                            api.ErrText,
		`"\ude00"`:                            api.ErrText,
		`"` + strings.Repeat("x", 4097) + `"`: api.ErrLong,
		`"` + strings.Repeat(`\u00e9`, 2049) + `"`: api.ErrLong,
	} {
		for _, ahead := range []string{"", " ", "\r\n", "[", `{"a":`, `"é",`, "true 1 -2"} {
			refused(t, ahead+s, len(ahead), e)
			if e != api.ErrEnd {
				refused(t, ahead+s+`, "more`, len(ahead), e)
			}
		}
	}
}

// P7.1: the greatest texts in quotes, however they are written.
func TestGreatestQuoted(t *testing.T) {
	x := strings.Repeat("x", 4096)
	lexed(t, ` "`+x+`"`, jlex.Token{Kind: jlex.Text, Text: x, At: 1}, end(4099))
	s := strings.Repeat(`\u00e9`, 2048)
	lexed(t, `"`+s+`",`, jlex.Token{Kind: jlex.Text, Text: strings.Repeat("é", 2048)}, jlex.Token{Kind: jlex.Comma, At: 12290}, end(12291))
}

// P7.1: of several things that are wrong the first one from the left is told.
func TestFirstFromTheLeft(t *testing.T) {
	wrong := map[string]api.Errno{
		`"\q"`: api.ErrForm, `"` + "\xff" + `"`: api.ErrText, `"` + strings.Repeat("x", 4097) + `"`: api.ErrLong, `01`: api.ErrNumber, `-`: api.ErrNumber,
		`9223372036854775808`: api.ErrRange, `nul`: api.ErrForm, `@`: api.ErrForm, `"\ud800"`: api.ErrText,
	}
	for s, e := range wrong {
		for z := range wrong {
			refused(t, s+" "+z, 0, e)
			refused(t, "[null, "+s+",\t"+z+"]", 7, e)
		}
		refused(t, s+` "`, 0, e)
		refused(t, "] 1 { "+s, 6, e)
	}
	refused(t, `"@ 01 nul`, 0, api.ErrEnd)
}

// P7.1: texts of as many bytes as may be, and of one more, which is told ahead of all.
func TestLongest(t *testing.T) {
	const n = 1 << 20
	s := strings.Repeat(" ", n)
	lexed(t, s, end(n))
	refused(t, s+" ", 0, api.ErrLong)
	s = strings.Repeat("\n", n-4) + "null"
	lexed(t, s, jlex.Token{Kind: jlex.Null, At: n - 4}, end(n))
	refused(t, s+"\n", 0, api.ErrLong)
	refused(t, s[:n-1]+"@", n-4, api.ErrForm)
	for one, e := range map[string]api.Errno{"@": api.ErrForm, "01": api.ErrNumber, "99": api.ErrRange, `"`: api.ErrEnd, "nu": api.ErrForm, `"x`: api.ErrLong, "\xff": api.ErrForm} {
		s := strings.Repeat(one, n/len(one))
		if one != `"` && one != `"x` {
			refused(t, s, 0, e)
		}
		refused(t, s+one, 0, api.ErrLong)
	}
	refused(t, `"`+strings.Repeat("x", n-2)+`"`, 0, api.ErrLong)
	refused(t, `"`+strings.Repeat("x", n-1), 0, api.ErrEnd)
	refused(t, strings.Repeat("[", 3<<20), 0, api.ErrLong)
}

// P7.1, R1: many words.
func TestManyWords(t *testing.T) {
	const n = 1 << 20
	for one, w := range map[string]jlex.Token{"[": {Kind: jlex.Begin}, "1 ": {Kind: jlex.Int, Int: 1}, `""`: {Kind: jlex.Text}, "null,": {Kind: jlex.Null}} {
		s := strings.Repeat(one, n/len(one))
		l, at, e := jlex.Lex(s)
		if at != 0 || e != api.OK {
			t.Fatalf("Lex of many %q is wrong at %d: %v", one, at, e)
		}
		for i, x := range l {
			want := placed(w, i*len(one))
			if one == "null," {
				want = placed(w, i/2*5)
				if i%2 == 1 {
					want = jlex.Token{Kind: jlex.Comma, At: i/2*5 + 4}
				}
			}
			if i == len(l)-1 {
				want = end(len(s))
			}
			if x != want {
				t.Fatalf("of many %q the word %d is %v, not %v", one, i, x, want)
			}
		}
	}
}

// R3, R5: lists that are answered are new ones, each time.
func TestAnswersAreNew(t *testing.T) {
	const s = `["a",1]`
	one, _, _ := jlex.Lex(s)
	other, _, _ := jlex.Lex(s)
	for i := range one {
		one[i] = jlex.Token{Kind: jlex.Comma, Text: "x", Int: 9, At: 99}
	}
	again, _, _ := jlex.Lex(s)
	if !slices.Equal(other, again) {
		t.Errorf("Lex(%q) is %v, then %v", s, other, again)
	}
}
