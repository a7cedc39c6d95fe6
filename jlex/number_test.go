package jlex_test

import (
	"math"
	"regexp"
	"strconv"
	"strings"
	"testing"

	"bosun/api"
	"bosun/jlex"
)

// run is a text that Lex takes as one number, be it that it is none.
var run = regexp.MustCompile(`^[-0-9][-+.0-9A-Za-z]*$`)

// whole holds what Whole answers.
func whole(t *testing.T, s string, want int64, e api.Errno) {
	t.Helper()
	if n, x := jlex.Whole(s); n != want || x != e {
		t.Errorf("Whole(%.100q) is %d and %v, not %d and %v", s, n, x, want, e)
	}
}

// number holds what Whole answers, and that Lex answers likewise, whatever stands beside it.
func number(t *testing.T, s string, want int64, e api.Errno) {
	t.Helper()
	whole(t, s, want, e)
	if !run.MatchString(s) {
		return
	}
	// Ahead of it stand no words, then one more each time.
	for words, ahead := range []string{"\n", "[", `{"a"`, `{"a":`, `{"a":null`} {
		for _, behind := range []string{"", " ", "]", `"b"`, "\n1"} {
			if e != api.OK {
				refused(t, ahead+s+behind, len(ahead), e)
				continue
			}
			l, _, x := jlex.Lex(ahead + s + behind)
			w := jlex.Token{Kind: jlex.Int, Int: want, At: len(ahead)}
			if x != api.OK || len(l) <= words || l[words] != w {
				t.Errorf("Lex(%q + %.100q + %q) is %v and %v", ahead, s, behind, l, x)
			}
		}
	}
}

// P7.1: numbers that are such.
func TestWhole(t *testing.T) {
	for s, n := range map[string]int64{
		"0": 0, "-0": 0, "1": 1, "-1": -1, "9": 9, "-9": -9, "10": 10, "-10": -10, "100": 100, "101": 101, "1001": 1001, "-2050": -2050, "1234567890": 1234567890,
		"9223372036854775807": math.MaxInt64, "-9223372036854775807": -math.MaxInt64, "-9223372036854775808": math.MinInt64,
		"9223372036854775799": math.MaxInt64 - 8, "1000000000000000000": 1000000000000000000, "9000000000000000000": 9000000000000000000,
		"2147483648": 1 << 31, "-2147483649": -1<<31 - 1, "4294967296": 1 << 32, "9007199254740993": 1<<53 + 1,
	} {
		number(t, s, n, api.OK)
	}
	for i := range 63 {
		for _, n := range []int64{1 << i, 1<<i - 1, -1 << i, -1<<i - 1} {
			number(t, strconv.FormatInt(n, 10), n, api.OK)
		}
	}
	for n := int64(-1200); n <= 1200; n++ {
		number(t, strconv.FormatInt(n, 10), n, api.OK)
	}
}

// P7.1: what is no number.
func TestNoNumber(t *testing.T) {
	for _, s := range []string{
		"", "-", "--", "--1", "---", "-1-", "1-", "1-2", "1--2", "-a", "-+1", "- 1", "+1", "+", "+0", "01", "-01", "00", "-00", "000", "001", "010", "-0-", "0-", "0x", "0x10",
		"0b1", "0o7", "07", "1.", "1.0", "1.5", ".5", "-.5", "0.0", "1.2.3", "1e5", "1E5", "1e+5", "1e-5", "0e0", "1+", "1+1", "0+", "1a", "1A", "1z", "1Z", "12null", "1true", "-null", "-Infinity",
		"1_000", "_1", "1 ", " 1", "1 2", "1\n", "\t1", "1,", "1]", `"1"`, "1\x00", "\x001", "1é", "é", "٣", "１", "a", "null", "NaN", "Inf", "0-0", "1/2", "1:2", "/", ":", "@",
		"0" + strings.Repeat("9", 30), "-0" + strings.Repeat("0", 30), strings.Repeat("9", 30) + "x", strings.Repeat("9", 30) + ".0", strings.Repeat("9", 30) + "-", strings.Repeat("0", 1000),
	} {
		number(t, s, 0, api.ErrNumber)
	}
}

// P7.1: numbers that are too great, or too small.
func TestRange(t *testing.T) {
	for _, s := range []string{
		"9223372036854775808", "-9223372036854775809", "9223372036854775809", "9223372036854775810", "-9223372036854775810", "9223372036854775817", "9223372036854775900",
		"9300000000000000000", "10000000000000000000", "-10000000000000000000", "18446744073709551615", "18446744073709551616", "18446744073709551617",
		"-18446744073709551615", "-18446744073709551616", "-18446744073709551617", "27670116110564327424", "36893488147419103232", "92233720368547758070", "92233720368547758080",
		"100000000000000000000", "340282366920938463463374607431768211456", "-340282366920938463463374607431768211455", "99999999999999999999",
		"1" + strings.Repeat("0", 10000), "-" + strings.Repeat("9", 10000), strings.Repeat("1", 100000),
	} {
		number(t, s, 0, api.ErrRange)
	}
}

// P7.1: each byte within digits, and at their ends.
func TestBytesOfNumbers(t *testing.T) {
	for b := range 256 {
		c := string([]byte{byte(b)})
		digit := '0' <= b && b <= '9'
		for _, s := range []string{"12" + c, "1" + c + "2", "-1" + c} {
			n, e := jlex.Whole(s)
			if want, err := strconv.ParseInt(s, 10, 64); digit && (n != want || e != api.OK || err != nil) || !digit && (n != 0 || e != api.ErrNumber) {
				t.Errorf("Whole(%q) is %d and %v", s, n, e)
			}
		}
		if digit {
			continue
		}
		// A byte that isn't in numbers ends one.
		in := strings.Contains("-+.", c) || 'a' <= b && b <= 'z' || 'A' <= b && b <= 'Z'
		_, at, e := jlex.Lex("[12" + c)
		switch {
		case in && (at != 1 || e != api.ErrNumber):
			t.Errorf("Lex of 12 and %q is wrong at %d: %v", c, at, e)
		case !in && strings.Contains("{}[]:, \t\n\r", c) && e != api.OK:
			t.Errorf("Lex of 12 and %q is wrong at %d: %v", c, at, e)
		case !in && !strings.Contains("{}[]:, \t\n\r\"", c) && (at != 3 || e != api.ErrForm):
			t.Errorf("Lex of 12 and %q is wrong at %d: %v", c, at, e)
		}
	}
}

// R1: digits as many as a call may be handed, beyond what Lex takes.
func TestManyDigits(t *testing.T) {
	const n = 1 << 24
	whole(t, strings.Repeat("7", n), 0, api.ErrRange)
	whole(t, "-"+strings.Repeat("7", n), 0, api.ErrRange)
	whole(t, strings.Repeat("0", n), 0, api.ErrNumber)
	whole(t, strings.Repeat("7", n)+"x", 0, api.ErrNumber)
	whole(t, strings.Repeat("-", n), 0, api.ErrNumber)
}
