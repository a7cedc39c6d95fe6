package ylines_test

import (
	"slices"
	"strings"
	"testing"

	"bosun/api"
	"bosun/ylines"
)

// dash and text are rows of the line 0.
func dash(indent int) ylines.Row { return ylines.Row{Indent: indent, Dash: true} }

func text(indent int, s string) ylines.Row { return ylines.Row{Indent: indent, Text: s} }

// at is a row of another line.
func at(line int, r ylines.Row) ylines.Row {
	r.Line = line
	return r
}

// cut holds that a text has these rows, and nothing wrong.
func cut(t *testing.T, s string, want ...ylines.Row) {
	t.Helper()
	l, line, e := ylines.Cut(s)
	if line != 0 || e != api.OK {
		t.Errorf("Cut(%.200q) is wrong in line %d: %v", s, line, e)
		return
	}
	if !slices.Equal(l, want) {
		t.Errorf("Cut(%.200q) is %.500v, not %.500v", s, l, want)
	}
}

// refused holds that a text has no rows, in which line it is wrong, and why.
func refused(t *testing.T, s string, line int, e api.Errno) {
	t.Helper()
	if l, n, x := ylines.Cut(s); len(l) != 0 || n != line || x != e {
		t.Errorf("Cut(%.200q) is %.200v, %d and %v, not %d and %v", s, l, n, x, line, e)
	}
}

// P10.1: the chapter's example.
func TestExample(t *testing.T) {
	cut(t, "- a: 1 # x", dash(0), text(2, "a: 1"))
}

// P10.1: lines whose content is empty have no rows.
func TestNoRows(t *testing.T) {
	for _, s := range []string{
		"", "\n", "\n\n\n", " ", "    ", " \n", "\n ", "  \n \n   \n",
		"#", "# x", " #", "   # x", "##", "# a: 1\n#- b", "#\n\n #\n", "#\"", "# \" x", " # - \\",
	} {
		cut(t, s)
	}
}

// P10.1: lines are parted by line feeds, and counted from 0 on.
func TestLines(t *testing.T) {
	cut(t, "a", text(0, "a"))
	cut(t, "a\n", text(0, "a"))
	cut(t, "\na", at(1, text(0, "a")))
	cut(t, "a\nb", text(0, "a"), at(1, text(0, "b")))
	cut(t, "a\nb\n", text(0, "a"), at(1, text(0, "b")))
	cut(t, "a\n\n\n  b\n", text(0, "a"), at(3, text(2, "b")))
	cut(t, "a\n- b\n  - - c\n\n-\n d",
		text(0, "a"), at(1, dash(0)), at(1, text(2, "b")),
		at(2, dash(2)), at(2, dash(4)), at(2, text(6, "c")), at(4, dash(0)), at(5, text(1, "d")))
}

// P10.1: an indent is how many blanks stand ahead.
func TestIndents(t *testing.T) {
	for n := range 70 {
		ahead := strings.Repeat(" ", n)
		cut(t, ahead+"a", text(n, "a"))
		cut(t, ahead+"a  b ", text(n, "a  b"))
		cut(t, ahead+"-", dash(n))
		cut(t, ahead+"- a", dash(n), text(n+2, "a"))
		cut(t, ahead+`"a"`, text(n, `"a"`))
		cut(t, "x\n"+ahead+"a\ny", text(0, "x"), at(1, text(n, "a")), at(2, text(0, "y")))
	}
	n := 1 << 19
	cut(t, strings.Repeat(" ", n)+"a", text(n, "a"))
}

// P10.1: a - alone, or one with a blank behind, is a dash, and what is behind its blanks stands at its own place.
func TestDashes(t *testing.T) {
	for _, s := range []string{"-", "- ", "-   ", "- #", "-  # x", "- # - a"} {
		cut(t, s, dash(0))
	}
	for n := 1; n < 40; n++ {
		between := strings.Repeat(" ", n)
		cut(t, "-"+between+"a", dash(0), text(n+1, "a"))
		cut(t, "-"+between+"-", dash(0), dash(n+1))
		cut(t, " -"+between+"-"+between+"a: 1", dash(1), dash(n+2), text(2*n+3, "a: 1"))
		cut(t, "-"+between+"a"+between+"# x", dash(0), text(n+1, "a"))
	}
	cut(t, "- - -", dash(0), dash(2), dash(4))
	cut(t, "- -  -   a", dash(0), dash(2), dash(5), text(9, "a"))
	cut(t, "- - # -", dash(0), dash(2))
	cut(t, `- "- a"`, dash(0), text(2, `"- a"`))
	cut(t, "- a - b", dash(0), text(2, "a - b"))
	cut(t, "- a: - b", dash(0), text(2, "a: - b"))
}

// P10.1: a - with something else behind is no dash.
func TestNoDashes(t *testing.T) {
	for _, s := range []string{"--", "---", "-a", "-1", "--- a", "-- -", "-#", "-# x", "-\"a\"", "-é", "-:", "-\x7f", "-\u00a0a", "–", "– a"} {
		cut(t, s, text(0, s))
		cut(t, "  "+s, text(2, s))
		cut(t, "- "+s, dash(0), text(2, s))
		cut(t, "- "+s+" ", dash(0), text(2, s))
	}
	cut(t, "a -", text(0, "a -"))
	cut(t, "a - b", text(0, "a - b"))
	cut(t, `"-" -`, text(0, `"-" -`))
}

// P10.1: a remark begins at a # at the beginning, or behind a blank; behind another byte a # is as others are.
func TestRemarks(t *testing.T) {
	cut(t, "a # b", text(0, "a"))
	cut(t, "a #", text(0, "a"))
	cut(t, "a    #b", text(0, "a"))
	cut(t, "a # b # c", text(0, "a"))
	cut(t, "  a: 1 ## b", text(2, "a: 1"))
	for _, ahead := range []string{"a", ":", "-", "#", "\\", "é", "\x7f", "\u00a0", "'", `""`, `"a b "`} {
		if ahead != "#" {
			cut(t, ahead+"#", text(0, ahead+"#"))
			cut(t, ahead+"# b", text(0, ahead+"# b"))
			cut(t, ahead+"#b #c", text(0, ahead+"#b"))
		}
		cut(t, "x"+ahead+"#b", text(0, "x"+ahead+"#b"))
		cut(t, "x"+ahead+" #b", text(0, "x"+ahead))
	}
}

// P10.1: a # within a quoted part begins no remark, and a " behind the remark's place begins no quoted part.
func TestRemarksAndQuotes(t *testing.T) {
	for _, s := range []string{`"#"`, `"# a"`, `"a # b"`, `" #"`, `" # "`, `"a": "b # c"`, `"\" # "`, `"\\\" # "`, `'"# "`} {
		cut(t, s, text(0, s))
		cut(t, s+" # b", text(0, s))
		cut(t, s+"# b", text(0, s+"# b"))
		cut(t, "- "+s+" #\"", dash(0), text(2, s))
	}
	cut(t, `a # "`, text(0, "a"))
	cut(t, `a # "b`, text(0, "a"))
	cut(t, `a # \"`, text(0, "a"))
	cut(t, `# "`)
	cut(t, `"a" # "b`, text(0, `"a"`))
	cut(t, `"a" # "b" "`, text(0, `"a"`))
	cut(t, `"a\\" # "`, text(0, `"a\\"`))
	refused(t, `a # "`+"\n"+`a "# `, 1, api.ErrEnd)
	refused(t, `a# "`, 0, api.ErrEnd)
	refused(t, `" # a`, 0, api.ErrEnd)
	refused(t, `"\" # "" a`, 0, api.ErrEnd)
	refused(t, `"a"# "`, 0, api.ErrEnd)
}

// P10.1: quoted parts that end.
func TestQuotesThatEnd(t *testing.T) {
	for _, s := range []string{
		`""`, `"a"`, `" "`, `"""a"`, `"a""b"`, `"a" "b"`, `a "b" c "d"`, `"a": "b"`, `a""b`,
		`"\""`, `"\\"`, `"\\\""`, `"\\\\"`, `"\a"`, `"\\a\\"`, `"\"\""`, `"a\\""b\\"`, `"\u0022"`, `"\"" "\\"`,
	} {
		cut(t, s, text(0, s))
		cut(t, "  "+s+"  ", text(2, s))
		cut(t, "- "+s, dash(0), text(2, s))
		cut(t, s+"\n"+s, text(0, s), at(1, text(0, s)))
	}
}

// P10.1: quoted parts that don't end in their line.
func TestQuotesThatDoNotEnd(t *testing.T) {
	for _, s := range []string{
		`"`, `"a`, `a"`, `"""`, `"a" "`, `"a" b"`, `"\"`, `"\`, `"\\\"`, `"\\\\\"`, `"\\`, `"a\"`, `a: "b`, `- "`, `- - "a\"`,
		`"\\""`, `"\" "\"`, `" # "\"" "`,
	} {
		refused(t, s, 0, api.ErrEnd)
		refused(t, s+"\n\"", 0, api.ErrEnd)
		refused(t, "a\n\n"+s, 2, api.ErrEnd)
		refused(t, "- "+s+" ", 0, api.ErrEnd)
	}
}

// P10.1: outside a quoted part a \ takes nothing from the " behind it.
func TestBackslashesOutside(t *testing.T) {
	cut(t, `\`, text(0, `\`))
	cut(t, `\\ \a`, text(0, `\\ \a`))
	cut(t, `\""`, text(0, `\""`))
	cut(t, `\"a\\"`, text(0, `\"a\\"`))
	cut(t, `\" # "`, text(0, `\" # "`))
	cut(t, `\\"a # b"`, text(0, `\\"a # b"`))
	cut(t, `"a"\"b # c"`, text(0, `"a"\"b # c"`))
	cut(t, `\#`, text(0, `\#`))
	cut(t, `\ # "`, text(0, `\`))
	refused(t, `\"`, 0, api.ErrEnd)
	refused(t, `\\"`, 0, api.ErrEnd)
	refused(t, `\"\"`, 0, api.ErrEnd)
	refused(t, `a\"b # c`, 0, api.ErrEnd)
}
