package utf_test

import (
	"encoding/json"
	"fmt"
	"regexp"
	"strings"
	"testing"
	"unicode/utf8"

	"bosun/utf"
)

// validBytes is what RFC 3629 says of valid UTF-8, its bytes written as runes.
var validBytes = regexp.MustCompile("^(?:[\x00-\x7F]" +
	`|[\xC2-\xDF]` + tail +
	`|\xE0[\xA0-\xBF]` + tail + `|[\xE1-\xEC]` + tail + tail + `|\xED[\x80-\x9F]` + tail + `|[\xEE-\xEF]` + tail + tail +
	`|\xF0[\x90-\xBF]` + tail + tail + `|[\xF1-\xF3]` + tail + tail + tail + `|\xF4[\x80-\x8F]` + tail + tail + ")*$")

const tail = `[\x80-\xBF]`

// asRunes are a text's bytes, each as a rune.
func asRunes(s string) string {
	var b strings.Builder
	for i := range len(s) {
		b.WriteRune(rune(s[i]))
	}
	return b.String()
}

// edges are characters of one, two, three and four bytes, the first and the last ones of them, and some between.
func edges() []string {
	return []string{
		" ", "!", "#", "/", "a", "~", "\x7f",
		"\u0080", "é", "\u07ff",
		"\u0800", "€", "\u2028", "\ud7ff", "\ue000", "\ufdd0", "\ufeff", "\ufffd", "\ufffe", "\uffff",
		"\U00010000", "😀", "\U000fffff", "\U00100000", "\U0010ffff",
	}
}

// invalid are bytes that are no valid UTF-8, whatever stands ahead of them or behind, if that is itself valid.
func invalid() []string {
	l := []string{
		"\x80", "\xbf", "\xc0", "\xc1", "\xc2", "\xdf", "\xe0", "\xef", "\xf0", "\xf4", "\xf5", "\xf8", "\xfc", "\xfe", "\xff",
		"\xc0\x80", "\xc0\xaf", "\xc1\xbf", // one byte, in two
		"\xe0\x80\x80", "\xe0\x9f\xbf", // two, in three
		"\xf0\x80\x80\x80", "\xf0\x8f\xbf\xbf", // three, in four
		"\xed\xa0\x80", "\xed\xaf\xbf", "\xed\xb0\x80", "\xed\xbf\xbf", "\xed\xa0\xbd\xed\xb8\x80", // halves
		"\xf4\x90\x80\x80", "\xf7\xbf\xbf\xbf", "\xf8\x88\x80\x80\x80", "\xfc\x84\x80\x80\x80\x80", // above all
		"é\x80", "€\x80", "😀\x80",
	}
	for _, c := range edges() {
		for n := 1; n < len(c); n++ {
			l = append(l, c[:n], c[n:])
		}
	}
	return l
}

func holdValid(t *testing.T, s string, want bool) {
	t.Helper()
	if utf.Valid(s) != want {
		t.Errorf("Valid(%+q) is not %t", s, want)
	}
}

// P6.1
func TestValid(t *testing.T) {
	for _, s := range []string{"", "a", "plain", "\x00", "\x1f\x7f", `"\`, strings.Repeat("😀", 5000), strings.Join(edges(), "")} {
		holdValid(t, s, true)
	}
	for _, c := range edges() {
		holdValid(t, c, true)
		holdValid(t, c+c, true)
		holdValid(t, "a"+c+"é"+c, true)
	}
	for _, s := range invalid() {
		holdValid(t, s, false)
		holdValid(t, "a"+s, false)
		holdValid(t, s+"a", false)
		holdValid(t, "é€"+s+"😀", false)
		holdValid(t, strings.Repeat("a", 5000)+s, false)
	}
}

// P6.1: each rune, halves that are none among them.
func TestValidOfEachRune(t *testing.T) {
	for r := rune(0); r <= utf8.MaxRune; r++ {
		if r == 0xD800 {
			r = 0xE000
		}
		if s := string(r); !utf.Valid(s) {
			t.Fatalf("Valid(%+q) is false", s)
		}
	}
}

// P6.1: all texts of two bytes, and characters of which each byte is each other one.
func TestValidOfOtherBytes(t *testing.T) {
	hold := func(s string) {
		holdValid(t, s, validBytes.MatchString(asRunes(s)))
	}
	for b := range 1 << 16 {
		hold(string([]byte{byte(b >> 8), byte(b)}))
	}
	for _, c := range edges() {
		for at := range len(c) {
			for b := range 256 {
				hold(c[:at] + string([]byte{byte(b)}) + c[at+1:])
			}
		}
	}
}

func holdQuote(t *testing.T, s, want string) {
	t.Helper()
	if q := utf.Quote(s); q != want {
		t.Errorf("Quote(%+q) is %+q, not %+q", s, q, want)
	}
}

// quotedBytes are all bytes that don't stand as they are, each as it is written.
func quotedBytes() map[byte]string {
	l := map[byte]string{'"': `\"`, '\\': `\\`, '\n': `\n`, '\r': `\r`, '\t': `\t`, 8: `\b`, 12: `\f`}
	for b := range byte(32) {
		if l[b] == "" {
			l[b] = fmt.Sprintf(`\u%04x`, b)
		}
	}
	return l
}

// P6.1
func TestQuote(t *testing.T) {
	for s, want := range map[string]string{
		"":                      `""`,
		"plain":                 `"plain"`,
		" a  b ":                `" a  b "`,
		`say "x"`:               `"say \"x\""`,
		`"`:                     `"\""`,
		`\`:                     `"\\"`,
		`\\`:                    `"\\\\"`,
		`\"`:                    `"\\\""`,
		`\n`:                    `"\\n"`,
		`\u00e9`:                `"\\u00e9"`,
		"/":                     `"/"`,
		"a/b":                   `"a/b"`,
		"'":                     `"'"`,
		"one\ntwo\r\n\tthree\n": `"one\ntwo\r\n\tthree\n"`,
		"\x00":                  `"\u0000"`,
		"\x000":                 `"\u00000"`,
		"\x01\x07\b":            `"\u0001\u0007\b"`,
		"\v\f\x0e":              `"\u000b\f\u000e"`,
		"\x0f\x10\x1f":          `"\u000f\u0010\u001f"`,
		"\x1b[0m":               `"\u001b[0m"`,
		"\x7f":                  "\"\x7f\"",
		"é":                     `"é"`,
		"€":                     `"€"`,
		"😀":                     `"😀"`,
		"\u2028\u2029":          "\"\u2028\u2029\"",
		"\ufeff":                "\"\ufeff\"",
		"\ufffd":                "\"\ufffd\"",
		"<a&b>":                 `"<a&b>"`,
		"a\"é\\€\n😀":            `"a\"é\\€\n😀"`,
	} {
		holdQuote(t, s, want)
	}
}

// P6.1: each character, alone and within others.
func TestQuoteOfEachCharacter(t *testing.T) {
	written := quotedBytes()
	for r := rune(0); r <= utf8.MaxRune; r++ {
		if r == 0xD800 {
			r = 0xE000
		}
		s := string(r)
		want := s
		if w := written[s[0]]; w != "" {
			want = w
		}
		if utf.Quote(s) != `"`+want+`"` {
			t.Fatalf("Quote(%+q) is %+q, not %+q", s, utf.Quote(s), want)
		}
		if r < 0x100 {
			holdQuote(t, "é"+s+"a"+s, `"é`+want+"a"+want+`"`)
		}
	}
}

// P6.1: how long a text is bounds nothing.
func TestQuoteOfLongTexts(t *testing.T) {
	for _, n := range []int{4095, 4096, 4097, 100000} {
		holdQuote(t, strings.Repeat("x", n), `"`+strings.Repeat("x", n)+`"`)
		holdQuote(t, strings.Repeat("\x1f", n), `"`+strings.Repeat(`\u001f`, n)+`"`)
		holdQuote(t, strings.Repeat("é\n", n), `"`+strings.Repeat(`é\n`, n)+`"`)
	}
}

// P6.1: what is quoted is a text of RFC 8259, and says the same there.
func TestQuoteIsJSON(t *testing.T) {
	for _, s := range texts() {
		var read string
		if err := json.Unmarshal([]byte(utf.Quote(s)), &read); err != nil || read != s {
			t.Errorf("Quote(%+q) is %+q, which is read as %+q, %v", s, utf.Quote(s), read, err)
		}
	}
}

// R1: whatever is handed in, Valid and Quote end.
func TestQuoteOfInvalid(t *testing.T) {
	for _, s := range invalid() {
		utf.Quote(s)
		utf.Quote("a" + s + "a")
	}
}

// texts are some of valid UTF-8.
func texts() []string {
	l := []string{"", "plain", `"`, `\`, `\\"`, `\u0041`, `\ud83d\ude00`, "a/b", "\x00", "one\ntwo", strings.Join(edges(), "")}
	for b := range byte(0x80) {
		s := string(rune(b))
		l = append(l, s, s+s, "a"+s+"é", `\`+s, `"`+s)
	}
	for _, c := range edges() {
		l = append(l, c, c+c, `\`+c+`"`, "\n"+c+"\x01")
	}
	return l
}
