package jlex_test

import (
	"math/big"
	"math/rand"
	"regexp"
	"slices"
	"strings"
	"testing"

	"bosun/api"
	"bosun/jlex"
	"bosun/utf"
)

// What the chapter says, as expressions.
var (
	modelBlanks = regexp.MustCompile(`^[ \t\n\r]*`)
	modelRun    = regexp.MustCompile(`^[0-9-][0-9A-Za-z.+-]*`)
	modelNumber = regexp.MustCompile(`^-?(?:0|[1-9][0-9]*)$`)
	modelSign   = regexp.MustCompile(`^(?s:[A-Za-z]+|.)`)
)

// modelKinds are the words that say nothing but themselves, in the order of their Kinds.
var modelKinds = []string{"{", "}", "[", "]", ":", ",", "a text", "null", "true", "false"}

// modelWord is the word at the beginning of a text that isn't empty, and its bytes, by the chapter's words.
func modelWord(s string) (w jlex.Token, bytes string, e api.Errno) {
	if strings.HasPrefix(s, `"`) {
		text, used, e := utf.Unquote(s)
		return jlex.Token{Kind: 6, Text: text}, s[:used], e
	}
	if run := modelRun.FindString(s); run != "" {
		if !modelNumber.MatchString(run) {
			return w, "", api.ErrNumber
		}
		n, _ := new(big.Int).SetString(run, 10)
		if !n.IsInt64() {
			return w, "", api.ErrRange
		}
		return jlex.Token{Kind: 10, Int: n.Int64()}, run, api.OK
	}
	sign := modelSign.FindString(s)
	k := slices.Index(modelKinds, sign)
	if k < 0 {
		return w, "", api.ErrForm
	}
	return jlex.Token{Kind: jlex.Kind(k)}, sign, api.OK
}

// modelLex is what Lex answers, and each word's bytes.
func modelLex(s string) (l []jlex.Token, bytes []string, at int, e api.Errno) {
	if len(s) > 1<<20 {
		return nil, nil, 0, api.ErrLong
	}
	for {
		at += len(modelBlanks.FindString(s[at:]))
		if at == len(s) {
			return append(l, jlex.Token{Kind: 11, At: at}), bytes, 0, api.OK
		}
		w, b, e := modelWord(s[at:])
		if e != api.OK {
			return nil, nil, at, e
		}
		w.At = at
		l, bytes = append(l, w), append(bytes, b)
		at += len(b)
	}
}

// hold holds Lex against the model, and P7.2 of what has words.
func hold(t *testing.T, r *rand.Rand, s string) {
	t.Helper()
	l, at, e := jlex.Lex(s)
	m, bytes, n, x := modelLex(s)
	if !slices.Equal(l, m) || at != n || e != x {
		t.Fatalf("Lex(%+q) is %v, %d and %v, not %v, %d and %v", s, l, at, e, m, n, x)
	}
	if e != api.OK {
		return
	}
	rising := func(one, other jlex.Token) int { return one.At - other.At }
	if !slices.IsSortedFunc(l, rising) || len(slices.CompactFunc(slices.Clone(l), func(x, y jlex.Token) bool { return x.At == y.At })) != len(l) {
		t.Fatalf("Lex(%+q) has places that don't rise: %v", s, l)
	}
	parted := ""
	for i, b := range bytes {
		parted += randomBlanks(r) + " "
		l[i].At = len(parted)
		parted += b
	}
	parted += randomBlanks(r)
	l[len(bytes)].At = len(parted)
	if again, _, e := jlex.Lex(parted); e != api.OK || !slices.Equal(again, l) {
		t.Fatalf("Lex(%+q) is %v and %v, not %v", parted, again, e, l)
	}
}

func randomBlanks(r *rand.Rand) string {
	s := ""
	for range r.Intn(3) {
		s += string(" \t\n\r"[r.Intn(4)])
	}
	return s
}

// right are words.
var right = []string{
	"{", "}", "[", "]", ":", ",", "null", "true", "false", "0", "-0", "1", "-1", "12", "-340", "9223372036854775807", "-9223372036854775808",
	`""`, `"a"`, `"\n"`, `"é"`, `"\u00e9"`, `"\ud83d\ude00"`, `"a b"`, `"[1,2]"`, `"\""`, `"\\"`,
}

// wrong are parts of which no words are, alone or beside others.
var wrong = []string{
	"01", "-", "--", "1.5", "1e9", "+", ".", "9223372036854775808", "-9223372036854775809", "99999999999999999999x", "nul", "Null", "x", "@", "'", "/", "\\", `\"`, `"`, `"\q"`, `"\u12"`,
	`"\ud800"`, "\"\x01\"", "\"\xff\"", "\x00", "\x0b", "\x0c", "\x1f", "\x7f", "\x80", "\xc3", "é", "\ufeff", "\u2028", "-true", "0true", "true0", "null-1", "1null",
}

// anything is put together of words, mostly, and then perhaps changed, or cut off.
func anything(r *rand.Rand) string {
	s := randomBlanks(r)
	for range r.Intn(10) {
		if r.Intn(15) == 0 {
			s += wrong[r.Intn(len(wrong))]
		} else {
			s += right[r.Intn(len(right))]
		}
		s += randomBlanks(r)
	}
	if s == "" {
		return s
	}
	switch at := r.Intn(len(s)); r.Intn(8) {
	case 0:
		return s[:at]
	case 1:
		return s[:at] + string([]byte{byte(r.Intn(256))}) + s[at+1:]
	case 2:
		return s[:at] + s[at+1:]
	case 3:
		return s[at:]
	}
	return s
}

// P7.1, P7.2: two and three parts, right or wrong, beside each other.
func TestAllParts(t *testing.T) {
	r := rand.New(rand.NewSource(1))
	parts := append(append([]string{" ", "\n"}, right...), wrong...)
	for _, one := range parts {
		hold(t, r, one)
		for _, other := range parts {
			hold(t, r, one+other)
			hold(t, r, one+" "+other)
			hold(t, r, one+other+parts[r.Intn(len(parts))])
		}
	}
}

// P7.1, P7.2, R1: whatever is handed in.
func TestAnything(t *testing.T) {
	r := rand.New(rand.NewSource(2))
	for range 100000 {
		hold(t, r, anything(r))
	}
	for range 20000 {
		b := make([]byte, r.Intn(12))
		r.Read(b)
		hold(t, r, string(b))
	}
	const some = "-+.0123456789eEnultrfas\"\\ \n[]"
	for range 100000 {
		s := ""
		for range r.Intn(7) {
			s += string(some[r.Intn(len(some))])
		}
		hold(t, r, s)
	}
}

// P7.1: whatever digits there are, about the ends of the range, too.
func TestAnyNumber(t *testing.T) {
	r := rand.New(rand.NewSource(3))
	edge := new(big.Int).Lsh(big.NewInt(1), 63)
	for range 50000 {
		n := new(big.Int).Rand(r, new(big.Int).Lsh(big.NewInt(1), uint(1+r.Intn(80))))
		if r.Intn(2) == 0 {
			n = n.Add(edge, big.NewInt(int64(r.Intn(1000)-500)))
		}
		if r.Intn(2) == 0 {
			n.Neg(n)
		}
		want, e := int64(0), api.ErrRange
		if n.IsInt64() {
			want, e = n.Int64(), api.OK
		}
		if x, y := jlex.Whole(n.String()); x != want || y != e {
			t.Fatalf("Whole(%v) is %d and %v", n, x, y)
		}
		hold(t, r, n.String())
	}
}
