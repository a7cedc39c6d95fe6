package ylines_test

import (
	"math/rand"
	"regexp"
	"slices"
	"strings"
	"testing"
	"unicode/utf8"

	"bosun/api"
	"bosun/ylines"
)

// quotedPart is one that ends.
var quotedPart = regexp.MustCompile(`^"(?:[^"\\]|\\.)*"`)

// parted is a line up to its remark, part by part; false, if a quoted part doesn't end.
func parted(line string) (string, bool) {
	said := ""
	for line != "" {
		if line[0] == '#' && (said == "" || strings.HasSuffix(said, " ")) {
			break
		}
		part := line[:1]
		if line[0] == '"' {
			if part = quotedPart.FindString(line); part == "" {
				return "", false
			}
		}
		said += part
		line = line[len(part):]
	}
	return said, true
}

// model is what Cut answers, by the chapter's words.
func model(s string) (l []ylines.Row, line int, e api.Errno) {
	if len(s) > api.MaxFile {
		return nil, 0, api.ErrLong
	}
	for n, line := range strings.Split(s, "\n") {
		if !utf8.ValidString(line) || strings.ContainsFunc(line, func(c rune) bool { return c < 32 }) {
			return nil, n, api.ErrText
		}
		said, ok := parted(line)
		if !ok {
			return nil, n, api.ErrEnd
		}
		for {
			content := strings.Trim(said, " ")
			if content == "" {
				break
			}
			indent := strings.IndexFunc(said, func(c rune) bool { return c != ' ' })
			if content != "-" && !strings.HasPrefix(content, "- ") {
				l = append(l, ylines.Row{Line: n, Indent: indent, Text: content})
				break
			}
			// With a blank in the dash's place what is behind it stands where it stood.
			l = append(l, ylines.Row{Line: n, Indent: indent, Dash: true})
			said = said[:indent] + " " + said[indent+1:]
		}
	}
	return l, 0, api.OK
}

// hold holds Cut against the model, and says whether there was nothing wrong.
func hold(t *testing.T, s string) bool {
	t.Helper()
	l, line, e := ylines.Cut(s)
	if m, n, x := model(s); !slices.Equal(l, m) || line != n || e != x {
		t.Fatalf("Cut(%.300q) is %.300v, %d and %v, not %.300v, %d and %v", s, l, line, e, m, n, x)
	}
	return e == api.OK
}

// P10.1: all texts of a few of the bytes that count.
func TestAllShortTexts(t *testing.T) {
	const signs = "a -#\"\\\n"
	texts := []string{""}
	for range 6 {
		var longer []string
		for _, s := range texts {
			for i := range signs {
				hold(t, s+signs[i:i+1])
				longer = append(longer, s+signs[i:i+1])
			}
		}
		texts = longer
	}
}

// anyLine is a line put together of parts; of those that are wrong there are few.
func anyLine(r *rand.Rand) string {
	parts := []string{
		" ", " ", "  ", "-", "- ", "- ", "#", " #", "a", "b: ", ":", `"`, `""`, `"a`, `\`, `\\`, `\"`, `"\"`, `\\"`, `"x # y"`, "é", "€", "😀", "\x7f", "\u00a0",
	}
	wrong := []string{"\t", "\r", "\x00", "\x1f", "\x80", "\xff", "\xc3", "\xe2\x82"}
	s := strings.Repeat(" ", r.Intn(4))
	for range r.Intn(7) {
		if r.Intn(80) == 0 {
			s += wrong[r.Intn(len(wrong))]
		} else {
			s += parts[r.Intn(len(parts))]
		}
	}
	return s
}

// P10.1, R1: whatever is handed in.
func TestAnything(t *testing.T) {
	r := rand.New(rand.NewSource(1))
	good := 0
	for range 100000 {
		var lines []string
		for range 1 + r.Intn(4) {
			lines = append(lines, anyLine(r))
		}
		if hold(t, strings.Join(lines, "\n")) {
			good++
		}
	}
	if good < 20000 || good > 80000 {
		t.Errorf("of 100000 texts %d were right", good)
	}
	for range 20000 {
		b := make([]byte, r.Intn(12))
		r.Read(b)
		hold(t, string(b))
	}
}

// P10.2: whatever stands behind a line and says nothing changes nothing but the numbers of the lines below it.
func TestWhatSaysNothing(t *testing.T) {
	r := rand.New(rand.NewSource(2))
	behind := []string{
		"", " ", "     ", " #", " # x", "   ## x", ` # "`, ` # \`, " # - a: 1", " #é",
		"\n", "\n\n\n", "\n    ", "\n#", "\n   # x\n", "\n# \"\n \n#", " # x\n\n# y\n", "  \n  ",
	}
	texts := []string{"", "a", "- a: 1", "a:\n  - 1\n  - \"#\"\nb: {}", "# x\n\n- - - a # y\n-\n- \"b\"", "a\n\"b\nc", "a\nb\tc"}
	for range 3000 {
		texts = append(texts, anyLine(r)+"\n"+anyLine(r)+"\n"+anyLine(r))
	}
	for _, s := range texts {
		_, wrong, e := ylines.Cut(s)
		for i := range strings.Split(s, "\n") {
			for _, b := range behind {
				if e == api.ErrEnd && i == wrong && strings.HasSuffix(b, `"`) {
					// Behind a quoted part that doesn't end this would be no remark, but its end.
					continue
				}
				lines := strings.Split(s, "\n")
				lines[i] += b
				same(t, s, i, strings.Join(lines, "\n"), strings.Count(b, "\n"))
			}
		}
	}
}

// same holds that a text has the rows, or the error, of another one, in which behind a line there are so many more.
func same(t *testing.T, s string, behind int, other string, more int) {
	t.Helper()
	l, line, e := ylines.Cut(s)
	for i := range l {
		if l[i].Line > behind {
			l[i].Line += more
		}
	}
	if e != api.OK && line > behind {
		line += more
	}
	if m, n, x := ylines.Cut(other); !slices.Equal(l, m) || line != n || e != x {
		t.Fatalf("Cut(%q) is %v, %d and %v, but Cut(%q) is %v, %d and %v", s, l, line, e, other, m, n, x)
	}
}
