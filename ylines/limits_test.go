package ylines_test

import (
	"strings"
	"testing"

	"bosun/api"
	"bosun/ylines"
)

// P10.1: bytes below 32 are wrong wherever they stand; all others of ASCII are not.
func TestBytes(t *testing.T) {
	for c := range 128 {
		s := string(rune(c))
		if c == '\n' || c == '"' || c == '#' || c == ' ' {
			continue
		}
		if c < 32 {
			for _, line := range []string{s, "a" + s, s + "a", "- " + s, "a: 1" + s, `"` + s + `"`, "# " + s, "a # b" + s + "c", "   " + s + "  "} {
				refused(t, line, 0, api.ErrText)
				refused(t, "a\n\n- b\n"+line+"\n", 3, api.ErrText)
			}
			continue
		}
		cut(t, "a"+s, text(0, "a"+s))
		cut(t, `"`+s+` "`, text(0, `"`+s+` "`))
		cut(t, "a # "+s, text(0, "a"))
	}
}

// P10.1: lines that end as others write them are wrong in their carriage returns.
func TestCarriageReturns(t *testing.T) {
	refused(t, "a: 1\r\nb: 2\r\n", 0, api.ErrText)
	refused(t, "a: 1\nb: 2\r\n", 1, api.ErrText)
	refused(t, "\r\n", 0, api.ErrText)
	refused(t, "a\n\r", 1, api.ErrText)
	refused(t, "a\n# x\r", 1, api.ErrText)
}

// P10.1: letters of two, three and four bytes; places are counted in bytes, and only blanks stand ahead of them.
func TestLetters(t *testing.T) {
	for _, c := range []string{"\u0080", "é", "\u07ff", "\u0800", "€", "\u2028", "\ufffd", "\uffff", "\U00010000", "😀", "\U0010ffff", "\u00a0", "\u3000"} {
		cut(t, c, text(0, c))
		cut(t, " "+c+c+" ", text(1, c+c))
		cut(t, "- "+c+": "+c+" # "+c, dash(0), text(2, c+": "+c))
		cut(t, `"`+c+`#" # `+c, text(0, `"`+c+`#"`))
		cut(t, "# "+c)
	}
}

// P10.1: what isn't valid UTF-8 is wrong wherever it stands.
func TestInvalid(t *testing.T) {
	for _, c := range []string{
		"\x80", "\xbf", "\xc0\x80", "\xc3", "\xc3(", "\xe2\x82", "\xe0\x80\x80", "\xed\xa0\x80", "\xed\xbf\xbf",
		"\xf0\x9f\x98", "\xf0\x80\x80\x80", "\xf4\x90\x80\x80", "\xf5", "\xff", "é\x80",
	} {
		for _, line := range []string{c, "a" + c, c + "a", "- " + c, `"` + c + `"`, "# " + c, "a # b" + c} {
			refused(t, line, 0, api.ErrText)
			refused(t, "a: 1\n"+line, 1, api.ErrText)
			refused(t, "\n"+line+"\n\"", 1, api.ErrText)
		}
	}
	// A letter that a line feed parts is none.
	refused(t, "a\n\xc3\n\xa9", 1, api.ErrText)
}

// P10.1: of two errors in one line ErrText is told; of two lines' errors that of the first line.
func TestOrderOfErrors(t *testing.T) {
	for _, c := range []string{"\t", "\r", "\x00", "\xff"} {
		refused(t, `"`+c, 0, api.ErrText)
		refused(t, c+`"`, 0, api.ErrText)
		refused(t, `a "b `+c, 0, api.ErrText)
		refused(t, `"a # `+c, 0, api.ErrText)
		refused(t, "a\n\"\n"+c, 1, api.ErrEnd)
		refused(t, "a\n"+c+"\n\"", 1, api.ErrText)
		refused(t, "a\n"+c+"\n"+c, 1, api.ErrText)
		refused(t, "a\n\"\n\"", 1, api.ErrEnd)
		refused(t, "- a\n- b # \"\n  c: \"d\n  e: "+c, 2, api.ErrEnd)
	}
}

// P10.1: texts of 2^20 bytes, and of one more, which is told ahead of all else, at 0.
func TestLong(t *testing.T) {
	const n = 1 << 20
	for _, c := range []string{"a", "\x7f", "é", "😀", "'"} {
		s := strings.Repeat(c, n/len(c))
		cut(t, s, text(0, s))
		refused(t, s+"a", 0, api.ErrLong)
	}
	cut(t, strings.Repeat(" ", n))
	cut(t, strings.Repeat("\n", n))
	cut(t, strings.Repeat("#", n))
	cut(t, strings.Repeat(" ", n-1)+"a", text(n-1, "a"))
	cut(t, strings.Repeat("\n", n-1)+"a", at(n-1, text(0, "a")))
	quoted := `"` + strings.Repeat("#", n-2) + `"`
	cut(t, quoted, text(0, quoted))
	for _, c := range []string{" ", "\n", "#", "\xff", "\t", `"`, "\\", "- ", "a\n", "\"\n", "é"} {
		refused(t, strings.Repeat(c, n/len(c))+"a", 0, api.ErrLong)
		refused(t, "a\n\t\n\""+strings.Repeat(c, 2*n/len(c)), 0, api.ErrLong)
	}
	refused(t, strings.Repeat("\n", n-1)+`"`, n-1, api.ErrEnd)
	refused(t, strings.Repeat("\n", n-1)+"\t", n-1, api.ErrText)
	refused(t, strings.Repeat(`"`, n-1), 0, api.ErrEnd)
}

// P10.1: as many rows as a text has room for.
func TestManyRows(t *testing.T) {
	const n = 1 << 19
	l, line, e := ylines.Cut(strings.Repeat("- ", n))
	if len(l) != n || line != 0 || e != api.OK {
		t.Fatalf("of %d dashes there are %d rows, %d and %v", n, len(l), line, e)
	}
	for i, r := range l {
		if r != dash(2*i) {
			t.Fatalf("the row %d is %v", i, r)
		}
	}
	l, line, e = ylines.Cut(strings.Repeat("a\n", n))
	if len(l) != n || line != 0 || e != api.OK {
		t.Fatalf("of %d lines there are %d rows, %d and %v", n, len(l), line, e)
	}
	for i, r := range l {
		if r != at(i, text(0, "a")) {
			t.Fatalf("the row %d is %v", i, r)
		}
	}
}

// R3: each call's rows are in memory of their own.
func TestRowsAreNew(t *testing.T) {
	const s = "- a\n- b"
	first, _, _ := ylines.Cut(s)
	for i := range first {
		first[i] = ylines.Row{}
	}
	cut(t, s, dash(0), text(2, "a"), at(1, dash(0)), at(1, text(2, "b")))
}
