package dns_test

import (
	"slices"
	"strings"
	"testing"

	"bosun/dns"
)

// Which bytes may stand where, written out.
const (
	small   = "abcdefghijklmnopqrstuvwxyz"
	capital = "ABCDEFGHIJKLMNOPQRSTUVWXYZ"
	digits  = "0123456789"
)

// a is so many bytes that may stand everywhere.
func a(n int) string { return strings.Repeat("a", n) }

// held holds what a call says of a text.
func held(t *testing.T, what string, call func(string) bool, s string, want bool) {
	t.Helper()
	if call(s) != want {
		t.Errorf("%s(%.300q), of %d bytes, is %v", what, s, len(s), !want)
	}
}

// named holds that labels, parted by points, are a name, and that these are its parts.
func named(t *testing.T, labels ...string) {
	t.Helper()
	s := strings.Join(labels, ".")
	held(t, "Name", dns.Name, s, true)
	if l := dns.Parts(s); !slices.Equal(l, labels) {
		t.Errorf("Parts(%.300q) is %.300q, not %.300q", s, l, labels)
	}
}

// nameless holds that a text is no name, and has no parts.
func nameless(t *testing.T, s string) {
	t.Helper()
	held(t, "Name", dns.Name, s, false)
	if l := dns.Parts(s); len(l) != 0 {
		t.Errorf("Parts(%.300q), which is no name, is %.300q", s, l)
	}
}

// label and noLabel hold what a text without points is: a label, and a name of that one part, or neither.
func label(t *testing.T, s string) {
	t.Helper()
	held(t, "Label", dns.Label, s, true)
	named(t, s)
}

func noLabel(t *testing.T, s string) {
	t.Helper()
	held(t, "Label", dns.Label, s, false)
	nameless(t, s)
}

// P13.1: the chapter's example.
func TestExample(t *testing.T) {
	label(t, "a-1")
	noLabel(t, "-a")
	named(t, "a", "b-c")
	held(t, "Label", dns.Label, "a.b-c", false)
}

// P13.1: the empty text is none of them.
func TestEmpty(t *testing.T) {
	noLabel(t, "")
	held(t, "Variable", dns.Variable, "", false)
	held(t, "Image", dns.Image, "", false)
}

// P13.1: each byte alone as a label, and at a label's beginning, its end, and within.
func TestLabelBytes(t *testing.T) {
	for i := range 256 {
		c := string([]byte{byte(i)})
		mayEnd := strings.Contains(small+digits, c)
		within := mayEnd || c == "-"
		for s, want := range map[string]bool{c: mayEnd, c + "a": mayEnd, "a" + c: mayEnd, "a" + c + "a": within, "9" + c + "0": within} {
			held(t, "Label", dns.Label, s, want)
			if want {
				label(t, s)
				named(t, "x", s, "y")
			} else if c != "." {
				nameless(t, s)
				nameless(t, "x."+s+".y")
			}
		}
	}
}

// P13.1: labels of 63 bytes, and of one more.
func TestLabelLengths(t *testing.T) {
	for n := 1; n <= 63; n++ {
		label(t, a(n))
	}
	for n := 64; n <= 300; n++ {
		noLabel(t, a(n))
	}
	label(t, "a"+strings.Repeat("-", 61)+"9")
	noLabel(t, "a"+strings.Repeat("-", 62)+"9")
	noLabel(t, "-"+a(62))
	noLabel(t, a(62)+"-")
	noLabel(t, a(62)+"é")
	noLabel(t, a(1<<20))
}

// P13.1: a - stands within a label alone.
func TestHyphens(t *testing.T) {
	for _, s := range []string{"a-b", "a--b", "a---b", "0-0", "a-b-c", "1--2-3", "xn--p1ai"} {
		label(t, s)
	}
	for _, s := range []string{"-", "--", "---", "-a", "--a", "a-", "a--", "-a-", "-a-b", "a-b-", "-1", "1-"} {
		noLabel(t, s)
	}
}

// P13.1: capitals, _ and points make no label, and of these points alone may stand in a name.
func TestNoLabels(t *testing.T) {
	for _, s := range []string{"A", "Ab", "aB", "aBc", "_", "_a", "a_", "a_b", " ", " a", "a ", "a b", "a\n", "\na", "a\x00", "a/b", "a:b", "a@b", "a,b", "*", "*a"} {
		noLabel(t, s)
		nameless(t, s+".a")
		nameless(t, "a."+s)
	}
	for _, s := range []string{".", "a.b", ".a", "a.", "a..b"} {
		held(t, "Label", dns.Label, s, false)
	}
}

// P13.1, P13.2: names of one label and of several, whose parts are their labels in order.
func TestNames(t *testing.T) {
	named(t, "a")
	named(t, "web")
	named(t, "a", "b")
	named(t, "b", "a")
	named(t, "a", "a", "a")
	named(t, "0", "1-2", "z--y", "9")
	named(t, "127", "0", "0", "1")
	named(t, "app", "kubernetes", "io")
}

// P13.1: points stand between two labels alone.
func TestPoints(t *testing.T) {
	for _, s := range []string{
		".", "..", "...", ".a", "a.", ".a.", "a..b", "a...b", ".a.b", "a.b.", "..a", "a..", "a.b..c", "a..b.c",
		"a.-", "-.a", "a.-b", "a-.b", "a.b-", "-a.b", "a.-.b", "a.b-.c", "a.-b.c", "a. .b", "a .b", "a. b",
	} {
		nameless(t, s)
	}
}

// P13.1: a label of 63 bytes, and one more, at each place among others.
func TestLongLabelsInNames(t *testing.T) {
	for i := range 4 {
		labels := []string{"w", "x-y", "0", "z"}
		labels[i] = a(63)
		named(t, labels...)
		labels[i] = a(64)
		nameless(t, strings.Join(labels, "."))
	}
	named(t, a(63), a(63), a(63))
	nameless(t, a(63)+"."+a(64)+"."+a(63))
}

// P13.1: names of 253 bytes, their points counted, and of one more.
func TestNameLengths(t *testing.T) {
	named(t, a(63), a(63), a(63), a(61))
	named(t, a(61), a(63), a(63), a(63))
	nameless(t, strings.Join([]string{a(63), a(63), a(63), a(62)}, "."))
	nameless(t, strings.Join([]string{a(62), a(63), a(63), a(63)}, "."))
	nameless(t, strings.Join([]string{a(63), a(63), a(63), a(63)}, "."))

	single := slices.Repeat([]string{"a"}, 127)
	named(t, single...)
	nameless(t, strings.Join(append(single, "a"), "."))
	for i := range single {
		labels := slices.Clone(single)
		labels[i] = "aa"
		nameless(t, strings.Join(labels, "."))
	}
	named(t, slices.Concat(single[1:], []string{"b"})...)
	named(t, slices.Concat(single[2:], []string{"b-c"})...)
	nameless(t, strings.Repeat("a.", 127))
	nameless(t, "."+strings.Repeat("a.", 126))
	nameless(t, strings.Repeat("a.", 126)+"-")
}

// R1: texts far longer than names may be.
func TestLongTexts(t *testing.T) {
	for _, c := range []string{"a", ".", "a.", "-", "_", "A", "\xff", "\x00", "é"} {
		s := strings.Repeat(c, 1<<20)
		noLabel(t, s)
		nameless(t, "a."+s)
		held(t, "Variable", dns.Variable, s, false)
		held(t, "Image", dns.Image, s, false)
	}
}

// P13.1: each byte as the first one of a variable's name, and as a later one.
func TestVariableBytes(t *testing.T) {
	const first = small + capital + "_"
	for i := range 256 {
		c := string([]byte{byte(i)})
		begins := strings.Contains(first, c)
		for _, behind := range []string{"", "a", "A", "_", "9", a(62)} {
			held(t, "Variable", dns.Variable, c+behind, begins)
		}
		later := strings.Contains(first+digits, c)
		for _, ahead := range []string{"a", "A", "z", "Z", "_", "a1", a(62)} {
			held(t, "Variable", dns.Variable, ahead+c, later)
			if len(ahead) < 62 {
				held(t, "Variable", dns.Variable, ahead+c+"b", later)
				held(t, "Variable", dns.Variable, ahead+c+"9", later)
			}
		}
	}
}

// P13.1: a variable's names of 63 bytes, and of one more.
func TestVariableLengths(t *testing.T) {
	for n := 1; n <= 130; n++ {
		held(t, "Variable", dns.Variable, a(n), n <= 63)
		held(t, "Variable", dns.Variable, strings.Repeat("_", n), n <= 63)
		held(t, "Variable", dns.Variable, "X"+strings.Repeat("9", n-1), n <= 63)
		held(t, "Variable", dns.Variable, strings.Repeat("9", n), false)
	}
}

// P13.1: some variables' names, and some that are none.
func TestVariables(t *testing.T) {
	for _, s := range []string{"PATH", "path", "_", "__", "_1", "A1", "a_b_C_9", "HTTP_PORT", "x"} {
		held(t, "Variable", dns.Variable, s, true)
	}
	for _, s := range []string{"1", "1A", "0_", "A-B", "-A", "A-", "A.B", ".A", "A B", " A", "A ", "A=", "$A", "A\n", "A/B", "A:B", "A@", "A\x00", "ÄB", "AÄ"} {
		held(t, "Variable", dns.Variable, s, false)
	}
}

// P13.1: each byte as the first one of an image's name, and as a later one.
func TestImageBytes(t *testing.T) {
	const first = small + digits
	for i := range 256 {
		c := string([]byte{byte(i)})
		begins := strings.Contains(first, c)
		for _, behind := range []string{"", "a", "A", "0", ".", "/x", ":1", "@", a(254)} {
			held(t, "Image", dns.Image, c+behind, begins)
		}
		later := strings.Contains(first+capital+"._-/:@", c)
		for _, ahead := range []string{"a", "0", "z", "9", "a/", "aZ", a(254)} {
			held(t, "Image", dns.Image, ahead+c, later)
			if len(ahead) < 254 {
				held(t, "Image", dns.Image, ahead+c+"b", later)
				held(t, "Image", dns.Image, ahead+c+"@", later)
			}
		}
	}
}

// P13.1: images' names of 255 bytes, and of one more.
func TestImageLengths(t *testing.T) {
	for n := 1; n <= 600; n++ {
		held(t, "Image", dns.Image, a(n), n <= 255)
		held(t, "Image", dns.Image, strings.Repeat("9", n), n <= 255)
		held(t, "Image", dns.Image, "a"+strings.Repeat("/", n-1), n <= 255)
		held(t, "Image", dns.Image, strings.Repeat("A", n), false)
	}
}

// P13.1: some images' names, and some that are none.
func TestImages(t *testing.T) {
	for _, s := range []string{
		"nginx", "nginx:1.25", "docker.io/library/nginx:latest", "host:5000/a_b/C-d", "a@sha256:0123abc", "1", "0/0", "a.", "a-", "a:", "a@", "a/", "a//b", "a::b", "aB",
	} {
		held(t, "Image", dns.Image, s, true)
	}
	for _, s := range []string{
		"Nginx", "N", ".", "_", "-", "/", ":", "@", "_a", "-a", ".a", "/a", ":a", "@a", " a", "a ", "a b", "a\n", "a+b", "a#", "a?", "a*", "a\\b", "a,b", "a%20", "a\x00",
	} {
		held(t, "Image", dns.Image, s, false)
	}
}

// P13.1: letters and digits beyond those that are named, and what isn't valid UTF-8, make none of them.
func TestOtherLetters(t *testing.T) {
	for _, c := range []string{
		"é", "ß", "Ä", "ı", "ſ", "\u212a", "а", "ａ", "Ａ", "٣", "०", "０", "²", "½", "ª", "一", "😀", "\u0000", "\u00a0", "\u00ad", "\u200d", "。", "．", "‐", "＿", "\ufeff", "\ufffd",
		"\x80", "\xbf", "\xc1\xa1", "\xc3", "\xe2\x82", "\xed\xa0\x80", "\xf0\x9f\x98", "\xf4\x90\x80\x80", "\xfe", "\xff", "\xe1",
	} {
		for _, s := range []string{c, c + "a", "a" + c, "a" + c + "a", a(30) + c, c + c} {
			noLabel(t, s)
			nameless(t, "a."+s)
			nameless(t, s+".a")
			nameless(t, "a."+s+".a")
			held(t, "Variable", dns.Variable, s, false)
			held(t, "Image", dns.Image, s, false)
		}
	}
}

// R3: what Parts answers is in memory of its own.
func TestPartsAreNew(t *testing.T) {
	const s = "a.b-c.9"
	first := dns.Parts(s)
	for i := range first {
		first[i] = "x"
	}
	_ = append(first[:1], "y", "z")
	if l := dns.Parts(s); !slices.Equal(l, []string{"a", "b-c", "9"}) {
		t.Errorf("Parts(%q), asked again, is %q", s, l)
	}
}
