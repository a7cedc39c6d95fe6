package utf_test

import (
	"fmt"
	"strings"
	"testing"
	"unicode/utf8"

	"bosun/api"
	"bosun/utf"
)

// read holds that a text is read in all its bytes, and so too whatever stands behind it.
func read(t *testing.T, quoted, want string) {
	t.Helper()
	for _, behind := range []string{"", `"`, "x", " ", "\n", `""`, `\`, ": 1", "\xff", "\x00", quoted, `"more"`} {
		text, used, e := utf.Unquote(quoted + behind)
		if text != want || used != len(quoted) || e != api.OK {
			t.Errorf("Unquote(%+q + %+q) is %+q, %d and %v, not %+q and %d", quoted, behind, text, used, e, want, len(quoted))
		}
	}
}

// refused holds that a text isn't read, for which error, and that nothing else is answered with it.
func refused(t *testing.T, s string, want api.Errno) {
	t.Helper()
	if text, used, e := utf.Unquote(s); text != "" || used != 0 || e != want {
		t.Errorf("Unquote(%+q) is %+q, %d and %v, not %v alone", s, text, used, e, want)
	}
}

// refusedWithMore holds that a text isn't read, whatever stands behind it, too.
func refusedWithMore(t *testing.T, s string, want api.Errno) {
	t.Helper()
	for _, behind := range []string{"", `"`, "x", `x"`, `\`, `\u`, `\x"`, "\xff", "\xff\"", "\x00\"", `\ud800"`, strings.Repeat("x", 5000) + `"`} {
		refused(t, s+behind, want)
	}
}

// P6.2: the chapter's example, and some more.
func TestUnquote(t *testing.T) {
	for quoted, want := range map[string]string{
		`"\u00e9"`:              "é",
		`""`:                    "",
		`"plain"`:               "plain",
		`" a  b "`:              " a  b ",
		`"say \"x\""`:           `say "x"`,
		`"\""`:                  `"`,
		`"\\"`:                  `\`,
		`"\\\\"`:                `\\`,
		`"\\\""`:                `\"`,
		`"\\n"`:                 `\n`,
		`"\\u00e9"`:             `\u00e9`,
		`"/\/"`:                 "//",
		`"'"`:                   "'",
		`"\b\f\n\r\t"`:          "\b\f\n\r\t",
		`"one\ntwo\r\n"`:        "one\ntwo\r\n",
		`"bfnrtu0"`:             "bfnrtu0",
		`"é€😀"`:                 "é€😀",
		"\"\x7f\"":              "\x7f",
		"\"\u2028\ufeff\"":      "\u2028\ufeff",
		"\"\ufffd\"":            "\ufffd",
		`"\ufffd"`:              "\ufffd",
		`"\u0000"`:              "\x00",
		`"\u00000"`:             "\x000",
		`"\u0022\u005c"`:        `"\`,
		`"\u005cn\u005c\u005c"`: `\n\\`,
		`"\u002f"`:              "/",
		`"\u0041\u0062C"`:       "AbC",
		`"\u12345"`:             "\u12345",
		`"\uabcd\uABCD\uaBcD"`:  "\uabcd\uabcd\uabcd",
		`"\uEF09"`:              "\uef09",
		`"\ud83d\ude00"`:        "😀",
		`"\uD83D\uDE00"`:        "😀",
		`"\ud834\udd1e\n"`:      "𝄞\n",
		`"a\ud83d\ude00b"`:      "a😀b",
		`"{\"a\":[1,null]}"`:    `{"a":[1,null]}`,
	} {
		read(t, quoted, want)
	}
}

// P6.2: of several texts in a row each is read where it begins.
func TestUnquoteGoesOn(t *testing.T) {
	s := `"a""\"é""" "\u00e9"`
	for _, want := range []struct {
		text string
		used int
	}{{"a", 3}, {`"é`, 6}, {"", 2}} {
		text, used, e := utf.Unquote(s)
		if text != want.text || used != want.used || e != api.OK {
			t.Fatalf("Unquote(%+q) is %+q, %d and %v", s, text, used, e)
		}
		s = s[used:]
	}
	refused(t, s, api.ErrForm)
}

// P6.2: what each byte means behind a \.
func TestUnquoteOfShortEscapes(t *testing.T) {
	meant := map[byte]string{'"': `"`, '\\': `\`, '/': "/", 'b': "\x08", 'f': "\x0c", 'n': "\x0a", 'r': "\x0d", 't': "\x09"}
	for b := range 256 {
		c := string([]byte{byte(b)})
		if want, ok := meant[byte(b)]; ok {
			read(t, `"\`+c+`"`, want)
			read(t, `"é\`+c+`\`+c+`€"`, "é"+want+want+"€")
			continue
		}
		if c != "u" {
			refusedWithMore(t, `"\`+c, api.ErrForm)
			refusedWithMore(t, `"a\n\`+c, api.ErrForm)
		}
	}
}

// P6.2: each byte that stands as it is.
func TestUnquoteOfPlainBytes(t *testing.T) {
	for b := range 256 {
		c := string([]byte{byte(b)})
		switch {
		case b < 32 || b > 0x7f:
			refused(t, `"`+c+`"`, api.ErrText)
			refused(t, `"`+c, api.ErrText)
			refusedWithMore(t, `"a\né`+c+`b`, api.ErrText)
		case c != `"` && c != `\`:
			read(t, `"`+c+`"`, c)
			read(t, `"€`+c+c+`a"`, "€"+c+c+"a")
		}
	}
}

// P6.2: all numbers behind a \u, of small digits and of great ones.
func TestUnquoteOfNumbers(t *testing.T) {
	for n := range 1 << 16 {
		for _, form := range []string{`"\u%04x"`, `"\u%04X"`} {
			quoted := fmt.Sprintf(form, n)
			text, used, e := utf.Unquote(quoted)
			if 0xD800 <= n && n <= 0xDFFF {
				if text != "" || used != 0 || e != api.ErrText {
					t.Fatalf("Unquote(%s) is %+q, %d and %v", quoted, text, used, e)
				}
				continue
			}
			if text != string(rune(n)) || used != 8 || e != api.OK {
				t.Fatalf("Unquote(%s) is %+q, %d and %v", quoted, text, used, e)
			}
		}
	}
}

// P6.2: all pairs of halves.
func TestUnquoteOfPairs(t *testing.T) {
	for r := rune(0x10000); r <= utf8.MaxRune; r++ {
		high, low := 0xD800+(r-0x10000)/1024, 0xDC00+(r-0x10000)%1024
		quoted := []byte(`"\u0000\u0000"`)
		for i := range 4 {
			quoted[3+i] = "0123456789abcdef"[high>>(12-4*i)&15]
			quoted[9+i] = "0123456789ABCDEF"[low>>(12-4*i)&15]
		}
		if text, used, e := utf.Unquote(string(quoted)); text != string(r) || used != 14 || e != api.OK {
			t.Fatalf("Unquote(%s) is %+q, %d and %v", quoted, text, used, e)
		}
	}
	for pair, want := range map[string]rune{
		`\ud800\udc00`: 0x10000, `\uD800\udfff`: 0x103ff, `\ud801\uDC00`: 0x10400, `\uDBFF\udc00`: 0x10fc00, `\uDBff\uDffF`: 0x10ffff,
	} {
		read(t, `"`+pair+`"`, string(want))
		read(t, `"a`+pair+pair+`\n"`, "a"+string(want)+string(want)+"\n")
	}
}

// P6.2: characters of each length, as they are.
func TestUnquoteOfCharacters(t *testing.T) {
	for _, c := range edges() {
		read(t, `"`+c+`"`, c)
		read(t, `"`+c+c+`\n`+c+`a"`, c+c+"\n"+c+"a")
	}
	for r := rune(0x80); r <= utf8.MaxRune; r++ {
		if r == 0xD800 {
			r = 0xE000
		}
		c := string(r)
		if text, used, e := utf.Unquote(`"` + c + `"`); text != c || used != len(c)+2 || e != api.OK {
			t.Fatalf("Unquote of %+q in quotes is %+q, %d and %v", c, text, used, e)
		}
	}
}

// P6.2: ErrForm, if the first byte isn't ", whatever else is wrong.
func TestUnquoteOfNoQuote(t *testing.T) {
	refused(t, "", api.ErrForm)
	for b := range 256 {
		if b == '"' {
			continue
		}
		c := string([]byte{byte(b)})
		refusedWithMore(t, c, api.ErrForm)
		refused(t, c+`"plain"`, api.ErrForm)
		refused(t, c+`"`+strings.Repeat("x", 4097)+`"`, api.ErrForm)
	}
	for _, s := range []string{" \"a\"", "\ufeff\"a\"", "'a'", "”a”", "a", "null", `\"a"`} {
		refused(t, s, api.ErrForm)
	}
}

// P6.2: ErrEnd, wherever a text is cut off, but within a character that stands as it is.
func TestUnquoteOfCutOff(t *testing.T) {
	for _, s := range []string{
		`""`, `"a"`, `"plain"`, `"\n"`, `"\""`, `"\\"`, `"\/"`, `"\b\f\n\r\t"`, `"\u00e9"`, `"\uABCD"`, `"\uD7FF\uE000"`,
		`"\ud83d\ude00"`, `"a\uD83D\uDE00b"`, `"\n\ud800\udc00\ud800\udc00"`, `"\udbff\udfff"`, `"\"\"\\\\\""`,
		`"` + strings.Repeat("x", 4096) + `"`, `"` + strings.Repeat("x", 4097) + `"`, `"` + strings.Repeat(`\u0041`, 1000) + `"`,
	} {
		for n := 1; n < len(s); n++ {
			refused(t, s[:n], api.ErrEnd)
		}
	}
	for _, c := range edges() {
		refused(t, `"`+c, api.ErrEnd)
		for n := 1; n < len(c); n++ {
			refused(t, `"`+c[:n], api.ErrText)
		}
	}
}

// P6.2: ErrForm of what isn't one of four digits, at each of their places.
func TestUnquoteOfWrongDigits(t *testing.T) {
	isDigit := func(b int) bool { return strings.IndexByte("0123456789abcdefABCDEF", byte(b)) >= 0 }
	for _, number := range []string{"0041", "00e9", "d83d", "dc00", "FFFF"} {
		for at := range 4 {
			for b := range 256 {
				if isDigit(b) {
					continue
				}
				c := string([]byte{byte(b)})
				refused(t, `"\u`+number[:at]+c, api.ErrForm)
				refused(t, `"\u`+number[:at]+c+`"`, api.ErrForm)
				refused(t, `"\u`+number[:at]+c+number[at+1:]+`"`, api.ErrForm)
				refused(t, `"a\ud83d\u`+number[:at]+c+number[at+1:]+`"`, api.ErrForm)
				refused(t, `"\ud83d\u`+number[:at]+c, api.ErrForm)
			}
			refusedWithMore(t, `"\u`+number[:at]+"é", api.ErrForm)
		}
	}
	for _, s := range []string{`"\U0041"`, `"\x41"`, `"\101"`, `"\'"`, `"\a"`, `"\v"`, `"\0"`, `"\u{41}"`, `"\u+041"`, `"\u-041"`, `"\u 041"`, `"\u0x41"`, `"\N"`, `"\é"`, "\"\\\n\""} {
		refused(t, s, api.ErrForm)
	}
}

// P6.2: ErrText of what isn't valid UTF-8, at each place.
func TestUnquoteOfInvalid(t *testing.T) {
	for _, s := range invalid() {
		refused(t, `"`+s, api.ErrText)
		refused(t, `"`+s+`"`, api.ErrText)
		refused(t, `"a`+s+`\n"`, api.ErrText)
		refused(t, `"\u00e9é`+s+`é"`, api.ErrText)
		refused(t, `"😀`+s+`\x`, api.ErrText)
	}
	for _, c := range edges() {
		for at := range len(c) {
			for b := range 256 {
				s := c[:at] + string([]byte{byte(b)}) + c[at+1:]
				if b < 0x80 || validBytes.MatchString(asRunes(s)) {
					continue
				}
				refused(t, `"`+s+`"`, api.ErrText)
				refused(t, `"a`+s, api.ErrText)
			}
		}
	}
}

// P6.2: ErrText of the first half of a pair that no second one follows at once.
func TestUnquoteOfFirstHalf(t *testing.T) {
	for _, half := range []string{`\ud800`, `\uD83D`, `\udbff`, `\uDBFF`} {
		for _, ahead := range []string{``, `a`, `é`, `\n`, `\\`, `\ud83d\ude00`} {
			s := `"` + ahead + half
			for _, behind := range []string{
				`"`, `a`, `é`, ` `, `u`, `udc00`, "\n", "\x00", "\xff", "\xed\xb0\x80", ` \udc00`, `a\udc00"`, `/`,
				`\n`, `\"`, `\\`, `\/`, `\b`, `\\udc00"`, `\n\udc00"`,
				`\x`, `\U`, `\Udc00`, `\ `, "\\\x00", "\\\xff", "\\é",
				`\u0041`, `\u0000`, `\ud7ff`, `\ud800`, `\udbff`, `\ue000`, `\uE000`, `\uffff`, `\u00dc`, half, half + `\udc00"`,
			} {
				refused(t, s+behind, api.ErrText)
				refused(t, s+behind+`"`, api.ErrText)
			}
			for _, behind := range []string{``, `\`, `\u`, `\ud`, `\udc`, `\udc0`, `\u0`, `\u004`} {
				refused(t, s+behind, api.ErrEnd)
			}
			for _, behind := range []string{`\ux`, `\u"`, `\u\`, `\udx`, `\ud"`, `\udcg`, `\udc0"`, `\udc0 `, `\u004"`, "\\u\xff", "\\u00\n"} {
				refused(t, s+behind, api.ErrForm)
				refused(t, s+behind+`000"`, api.ErrForm)
			}
		}
	}
}

// P6.2: ErrText of the second half of a pair that stands alone, whatever follows.
func TestUnquoteOfSecondHalf(t *testing.T) {
	for _, half := range []string{`\udc00`, `\uDE00`, `\udfff`, `\uDFFF`} {
		for _, ahead := range []string{``, `a`, `é`, `\n`, `\\`, `\u0041`, `\ud7ff`, `\ue000`, `\ud83d\ude00`} {
			refusedWithMore(t, `"`+ahead+half, api.ErrText)
			refused(t, `"`+ahead+half+`\ud800"`, api.ErrText)
			refused(t, `"`+ahead+half+`\udc00"`, api.ErrText)
		}
	}
}

// P6.2: a text of 4096 bytes may be, as many as it took to write it.
func TestUnquoteOfTheLongest(t *testing.T) {
	for _, c := range []struct{ one, means string }{
		{`x`, "x"}, {`\n`, "\n"}, {`\"`, `"`}, {`\u0041`, "A"}, {`\u0000`, "\x00"},
		{`é`, "é"}, {`\u00e9`, "é"}, {`😀`, "😀"}, {`\ud83d\ude00`, "😀"},
	} {
		n := api.MaxText / len(c.means)
		longest := strings.Repeat(c.one, n)
		read(t, `"`+longest+`"`, strings.Repeat(c.means, n))
		for _, more := range []string{`x`, `\n`, `\\`, `\u0041`, `é`, `\u00e9`, `😀`, `\ud83d\ude00`, longest} {
			refused(t, `"`+longest+more+`"`, api.ErrLong)
			refused(t, `"`+more+longest+`"`, api.ErrLong)
			refused(t, `"`+longest+more+`"behind`, api.ErrLong)
		}
	}
	read(t, `"`+strings.Repeat("€", 1365)+`x"`, strings.Repeat("€", 1365)+"x")
	for _, more := range []string{`é`, `\u00e9`, `€`} {
		refused(t, `"`+strings.Repeat("€", 1365)+more+`"`, api.ErrLong)
		refused(t, `"`+strings.Repeat("x", 4095)+more+`"`, api.ErrLong)
	}
	for _, n := range []int{4097, 4098, 8192, 65535, 65536, 65537, 1 << 20, 1<<20 + 4096} {
		refused(t, `"`+strings.Repeat("x", n)+`"`, api.ErrLong)
	}
}

// P6.2: ErrLong is behind all else that is wrong with a text, but not with what follows it.
func TestUnquoteOfTooLongAndWrong(t *testing.T) {
	long := `"` + strings.Repeat("x", 5000)
	for s, want := range map[string]api.Errno{
		``: api.ErrEnd, `\`: api.ErrEnd, `\u12`: api.ErrEnd, `\ud800`: api.ErrEnd,
		`\x"`: api.ErrForm, `\u00g0"`: api.ErrForm, `\u12"`: api.ErrForm,
		"\n\"": api.ErrText, "\xff\"": api.ErrText, `\ud800"`: api.ErrText, `\udc00"`: api.ErrText,
		`"`: api.ErrLong, "\"\xff": api.ErrLong, `"\x`: api.ErrLong,
	} {
		refused(t, long+s, want)
		refused(t, `"`+strings.Repeat("x", 1<<20)+s, want)
	}
}

// P6.2: of two that are wrong the one is told that stands ahead.
func TestUnquoteOfTwoWrong(t *testing.T) {
	// None of these says how the text ends, so any may follow any.
	wrong := map[string]api.Errno{
		`\x`: api.ErrForm, `\u00g`: api.ErrForm, `\u"`: api.ErrForm, `\ud800\u"`: api.ErrForm,
		"\x01": api.ErrText, "\xff": api.ErrText, `\udc00`: api.ErrText, `\ud800 `: api.ErrText, `\ud800\n`: api.ErrText, `\ud800\x`: api.ErrText,
	}
	for first, want := range wrong {
		for second := range wrong {
			for _, between := range []string{``, `a`, `\n`, `é`, `\ud83d\ude00`, `"`} {
				refused(t, `"`+first+between+second+`"`, want)
				refused(t, `"ab`+first+between+second, want)
			}
		}
		refused(t, `"`+first, want)
		refused(t, `"`+first+`\`, want)
		refused(t, `"`+first+strings.Repeat("x", 5000)+`"`, want)
	}
}

// P6.3
func TestQuotedIsUnquotedAsItWas(t *testing.T) {
	l := texts()
	for _, c := range []string{"x", "\n", "\x1f", `"`, `\`, "/", "é", "😀", "\x7f"} {
		for _, n := range []int{1, 2, 100, 1024, 2048, 4095, 4096} {
			l = append(l, strings.Repeat(c, n)[:min(n*len(c), 4096)])
		}
	}
	for _, s := range l {
		read(t, utf.Quote(s), s)
	}
	for _, s := range []string{strings.Repeat("x", 4097), strings.Repeat("\n", 4097), strings.Repeat("é", 2048) + "x"} {
		refused(t, utf.Quote(s), api.ErrLong)
	}
}
