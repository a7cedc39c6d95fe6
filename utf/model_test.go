package utf_test

import (
	"encoding/json"
	"math/rand"
	"regexp"
	"strings"
	"testing"
	"unicode/utf8"

	"bosun/api"
	"bosun/utf"
)

// What the chapter says of escapes, as expressions over a text's bytes (asRunes).
const (
	four   = `[0-9A-Fa-f]{4}`
	high   = `\\u[Dd][89ABab][0-9A-Fa-f]{2}`
	low    = `\\u[Dd][C-Fc-f][0-9A-Fa-f]{2}`
	none   = `\\u(?:[0-9A-CE-Fa-ce-f][0-9A-Fa-f]|[Dd][0-7])[0-9A-Fa-f]{2}`
	short  = `\\["\\/bfnrt]`
	plain  = `[^\x00-\x1F"\\]`
	begun  = `\\(?:u[0-9A-Fa-f]{0,3})?`
	broken = `\\u[0-9A-Fa-f]{0,3}[^0-9A-Fa-f]`
)

// asItIs is a character, byte by byte, that may stand as it is, if it is valid.
var asItIs = regexp.MustCompile(`(?s)^(?:[\x00-\x7F]|[\xC0-\xDF].|[\xE0-\xEF]..|[\xF0-\xFF]...)`)

// inOrder is what may be read: characters, but those of several bytes.
var inOrder = regexp.MustCompile(`(?s)^(?:` + high + low + `|` + none + `|` + short + `|[\x20-\x21\x23-\x5B\x5D-\x7F])`)

// wrongThere are the errors of what stands where nothing may be read on, the first one that fits.
var wrongThere = []struct {
	there *regexp.Regexp
	e     api.Errno
}{
	{regexp.MustCompile(`(?s)^(?:` + high + `)?(?:` + begun + `)?$`), api.ErrEnd},
	{regexp.MustCompile(`(?s)^(?:` + high + `)?` + broken), api.ErrForm},
	{regexp.MustCompile(`(?s)^(?:` + high + `|` + low + `)`), api.ErrText},
	{regexp.MustCompile(`(?s)^\\`), api.ErrForm},
	{regexp.MustCompile(`(?s)^`), api.ErrText},
}

// unquoted is what Unquote answers, by the chapter's words.
func unquoted(s string) (text string, used int, e api.Errno) {
	if !strings.HasPrefix(s, `"`) {
		return "", 0, api.ErrForm
	}
	rest := asRunes(s[1:])
	for !strings.HasPrefix(rest, `"`) {
		c := inOrder.FindString(rest)
		if c == "" && !strings.HasPrefix(rest, `\`) {
			c = asItIs.FindString(rest)
			if !validBytes.MatchString(c) || c < " " {
				c = ""
			}
		}
		if c == "" {
			for _, w := range wrongThere {
				if w.there.MatchString(rest) {
					return "", 0, w.e
				}
			}
		}
		rest = rest[len(c):]
	}
	used = len(s) - utf8.RuneCountInString(rest) + 1
	if err := json.Unmarshal([]byte(s[:used]), &text); err != nil {
		panic(s[:used] + ": " + err.Error())
	}
	if len(text) > api.MaxText {
		return "", 0, api.ErrLong
	}
	return text, used, api.OK
}

func holdUnquote(t *testing.T, s string) {
	t.Helper()
	text, used, e := utf.Unquote(s)
	if x, n, y := unquoted(s); text != x || used != n || e != y {
		t.Fatalf("Unquote(%+q) is %+q, %d and %v, not %+q, %d and %v", s, text, used, e, x, n, y)
	}
}

// parts are what quoted texts, right or wrong, are put together of.
func parts() []string {
	l := []string{
		`"`, `\`, `u`, `\u`, `\\`, `\"`, `\/`, `\b`, `\f`, `\n`, `\r`, `\t`, `\u00`, `\u0041`, `\u00e9`, `\uFFFF`, `\u001F`,
		`\ud83d`, `\ude00`, `\uD800`, `\uDC00`, `\udbff`, `\udfff`, `\ud7ff`, `\ue000`, `\ud83d\ude00`, `\ud83d\`, `\ud83d\u`, `\ud83d\ude`,
		`a`, `d`, `0`, `/`, `g`, ` `, "\x00", "\x1f", "\n", "\x7f", "é", "€", "😀", "\x80", "\xc3", "\xe2\x82", "\xed\xa0\x80", "\xf0\x9f", "\xff",
	}
	return append(l, edges()...)
}

// P6.2: all that begins with ", and has two or three of the parts.
func TestUnquoteOfAllParts(t *testing.T) {
	l := parts()
	for _, one := range l {
		for _, two := range l {
			holdUnquote(t, `"`+one+two)
			holdUnquote(t, `"`+one+two+`"`)
		}
	}
	for _, half := range []string{`\ud83d`, `\ude00`} {
		for _, one := range l {
			for _, two := range l {
				holdUnquote(t, `"`+half+one+two+`"`)
			}
		}
	}
}

// anything is put together of parts that mostly are right, and then perhaps changed, or cut off.
func anything(r *rand.Rand) string {
	right := []string{
		`a`, `b`, ` `, `/`, `\\`, `\"`, `\/`, `\b`, `\f`, `\n`, `\r`, `\t`, `\u0041`, `\u00E9`, `\ud83d\ude00`, `é`, `€`, `😀`, `u`, `d800`,
	}
	all := parts()
	s := `"`
	for range r.Intn(12) {
		if r.Intn(12) == 0 {
			s += all[r.Intn(len(all))]
		} else {
			s += right[r.Intn(len(right))]
		}
	}
	if r.Intn(4) > 0 {
		s += `"`
	}
	switch at := r.Intn(len(s)); r.Intn(6) {
	case 0:
		return s[:at]
	case 1:
		return s[:at] + string([]byte{byte(r.Intn(256))}) + s[at+1:]
	case 2:
		return s[:at] + s[at+1:]
	case 3:
		return s[at:]
	}
	return s
}

// P6.2, R1: whatever is handed in.
func TestUnquoteOfAnything(t *testing.T) {
	r := rand.New(rand.NewSource(1))
	for range 100000 {
		holdUnquote(t, anything(r))
	}
	for range 20000 {
		b := make([]byte, r.Intn(12))
		r.Read(b)
		holdUnquote(t, `"`+string(b))
		holdUnquote(t, string(b))
	}
}

// P6.2: about the limit, whatever the text is written of.
func TestUnquoteOfAnythingLong(t *testing.T) {
	r := rand.New(rand.NewSource(2))
	for range 300 {
		s, n := []byte(`"`), 0
		for limit := 4090 + r.Intn(7); n < limit; {
			c := string(rune(r.Intn([]int{0x20, 0x80, 0x800, 0x10000, 0x110000}[r.Intn(5)])))
			written, _ := json.Marshal(c)
			if r.Intn(2) == 0 {
				written = []byte(utf.Quote(c))
			}
			n += len(c)
			s = append(s, written[1:len(written)-1]...)
		}
		quoted := string(s)
		holdUnquote(t, quoted+`"`)
		holdUnquote(t, quoted+`\`)
		if _, _, e := utf.Unquote(quoted + `"`); (e == api.ErrLong) != (n > 4096) {
			t.Fatalf("of a text of %d bytes Unquote answers %v", n, e)
		}
	}
}

// P6.3: whatever is quoted.
func TestAnythingIsUnquotedAsItWas(t *testing.T) {
	r := rand.New(rand.NewSource(3))
	for range 20000 {
		s := ""
		for range r.Intn(20) {
			limit := []int{0x20, 0x80, 0x800, 0x10000, 0x110000}[r.Intn(5)]
			s += string(rune(r.Intn(limit)))
		}
		quoted := utf.Quote(s)
		if text, used, e := utf.Unquote(quoted + s); text != s || used != len(quoted) || e != api.OK {
			t.Fatalf("Unquote(%+q) is %+q, %d and %v", quoted, text, used, e)
		}
	}
}

// R1: long texts end soon, so how long they take goes by how long they are.
func TestLongTexts(t *testing.T) {
	const n = 1 << 22
	for one, want := range map[string]api.Errno{
		`x`: api.ErrEnd, `\`: api.ErrEnd, `\u0041`: api.ErrEnd, `é`: api.ErrEnd, `\ud83d\ude00`: api.ErrEnd,
		`\ud83d`: api.ErrText, "\xff": api.ErrText, "\x00": api.ErrText, `\u`: api.ErrForm,
	} {
		s := `"` + strings.Repeat(one, n/len(one))
		refused(t, s, want)
		if want == api.ErrEnd && one != `\` {
			refused(t, s+`"`, api.ErrLong)
		}
		quoted := utf.Quote(s)
		if len(quoted) < len(s)+3 {
			t.Errorf("Quote of many %+q has %d bytes", one, len(quoted))
		}
	}
}
