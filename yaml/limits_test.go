package yaml_test

import (
	"strconv"
	"strings"
	"testing"
	"time"

	"bosun/api"
	"bosun/value"
	"bosun/yaml"
)

// P11.1: keys and words of 4096 bytes, and of one more.
func TestLong(t *testing.T) {
	most, more := strings.Repeat("x", 4096), strings.Repeat("x", 4097)
	read(t, most, value.Of(most))
	read(t, "- "+most, value.Row(value.Of(most)))
	read(t, "a: "+most, value.Map(pair("a", value.Of(most))))
	read(t, most+": 1", value.Map(pair(most, one)))
	read(t, most+":", value.Map(pair(most, null)))
	read(t, most+": "+most, value.Map(pair(most, value.Of(most))))
	read(t, `"`+most+`": "`+most+`"`, value.Map(pair(most, value.Of(most))))
	read(t, "a:\n  "+most, value.Map(pair("a", value.Of(most))))
	refused(t, more, 0, api.ErrLong)
	refused(t, "- "+more, 0, api.ErrLong)
	refused(t, "a: "+more, 0, api.ErrLong)
	refused(t, "a:\n  "+more, 1, api.ErrLong)
	refused(t, more+": 1", 0, api.ErrLong)
	refused(t, more+":", 0, api.ErrLong)
	refused(t, "a: 1\n"+more+":", 1, api.ErrLong)
	refused(t, `"`+more+`": 1`, 0, api.ErrLong)
	refused(t, `"`+more+`"`, 0, api.ErrLong)
	refused(t, `a: "`+more+`"`, 0, api.ErrLong)
	refused(t, `a: "`+strings.Repeat("é", 2049)+`"`, 0, api.ErrLong)
	read(t, `a: "`+strings.Repeat("é", 2048)+`"`, value.Map(pair("a", value.Of(strings.Repeat("é", 2048)))))
	for _, s := range []string{most, more, most + more} {
		if !yaml.Key(s) {
			t.Errorf("of %d letters is no plain key", len(s))
		}
	}
}

// P11.1: what comes ahead of a key's, or a word's, being too long, and behind it.
func TestLongOrElse(t *testing.T) {
	more := strings.Repeat("x", 4097)
	refused(t, more+"*: 1", 0, api.ErrForm)
	refused(t, "1"+more+": 1", 0, api.ErrForm)
	refused(t, more+":x: 1", 0, api.ErrForm)
	refused(t, more+": 01", 0, api.ErrLong)
	refused(t, more+": *", 0, api.ErrLong)
	refused(t, more+": 1\n*", 0, api.ErrLong)
	refused(t, more+": 1\n"+more+": 1", 0, api.ErrLong)
	refused(t, more+"*", 0, api.ErrForm)
	refused(t, "a: "+more+" x", 0, api.ErrForm)
	refused(t, "a: 1\n"+more, 1, api.ErrForm)
	refused(t, "a: 1\na: "+more, 1, api.ErrTwice)
	refused(t, "1"+more, 0, api.ErrNumber)
	refused(t, strings.Repeat("1", 4097), 0, api.ErrRange)
	refused(t, "-"+strings.Repeat("9", 5000), 0, api.ErrRange)
	refused(t, "a: "+strings.Repeat("0", 4097), 0, api.ErrNumber)
	refused(t, `"`+more+`" x`, 0, api.ErrLong)
	refused(t, `"`+more+`":x`, 0, api.ErrLong)
	refused(t, "- 1\n"+more, 1, api.ErrForm)
}

// way is how a value may be put into lists, or keys, one each, with its own lines behind.
type way struct {
	ahead  func(n int) string // so many of them, the first at the indent 0
	rows   int                // how many lines each one has
	around func(v value.Value) value.Value
}

func row(v value.Value) value.Value { return value.Row(v) }

func second(v value.Value) value.Value { return value.Row(one, v) }

func keyed(v value.Value) value.Value { return value.Map(pair("a", v)) }

func keyedSecond(v value.Value) value.Value { return value.Map(pair("b", one), pair("a", v)) }

// rising are n times the same lines, each time with an indent greater by one.
func rising(n int, l ...string) string {
	s := ""
	for i := range n {
		for _, line := range l {
			s += strings.Repeat(" ", i) + line + "\n"
		}
	}
	return s + strings.Repeat(" ", n)
}

func ways() []way {
	return []way{
		{func(n int) string { return strings.Repeat("- ", n) }, 0, row},
		{func(n int) string { return rising(n, "-") }, 1, row},
		{func(n int) string { return rising(n, "- 1", "-") }, 2, second},
		{func(n int) string { return rising(n, "a:") }, 1, keyed},
		{func(n int) string { return rising(n, `"a":`) }, 1, keyed},
		{func(n int) string { return rising(n, "b: 1", "a:") }, 2, keyedSecond},
	}
}

// P11.1: lists and keys in 30 and 31 others, and, of dashes and key rows, and of [] and {}, in 32 and 33.
func TestDeep(t *testing.T) {
	for _, w := range ways() {
		for n := 30; n <= 34; n++ {
			deepRows(t, w, n)
			deepEmpty(t, w, n)
		}
	}
}

// tooDeep is the line of the first list, or keys, in 32 others: that of the 33rd of a way, or the last of a text.
func tooDeep(w way, ahead string) int { return min(strings.Count(ahead, "\n"), 32*w.rows) }

// deepRows holds what is read in n lists or keys of rows, of a list, or keys, of rows, and of other values.
func deepRows(t *testing.T, w way, n int) {
	t.Helper()
	ahead := w.ahead(n)
	for s, v := range map[string]value.Value{"-": row(null), "- 1": row(one), "a: 1": keyed(one), "a:": keyed(null), `"a": 1`: keyed(one), "1": one, "x": value.Of("x"), "null": null} {
		within := v.Depth() + n
		for range n {
			v = w.around(v)
		}
		if within <= 32 {
			read(t, ahead+s, v)
		} else {
			refused(t, ahead+s, tooDeep(w, ahead), api.ErrDeep)
		}
	}
}

// deepEmpty holds what is read in n lists or keys of rows, of a list, or keys, without anything.
func deepEmpty(t *testing.T, w way, n int) {
	t.Helper()
	ahead := w.ahead(n)
	for s, v := range map[string]value.Value{"[]": value.Row(), "{}": value.Map()} {
		for range n {
			v = w.around(v)
		}
		if n < 32 {
			read(t, ahead+s, v)
		} else {
			refused(t, ahead+s, tooDeep(w, ahead), api.ErrDeep)
		}
		// Behind a key: in one more.
		v = value.Row()
		if s == "{}" {
			v = value.Map()
		}
		v = keyed(v)
		for range n {
			v = w.around(v)
		}
		if n < 31 {
			read(t, ahead+"a: "+s, v)
		} else {
			refused(t, ahead+"a: "+s, tooDeep(w, ahead), api.ErrDeep)
		}
	}
}

// P11.1: what comes ahead of ErrDeep, and behind it.
func TestDeepOrElse(t *testing.T) {
	in := func(n int, s string) string { return strings.Repeat("- ", n) + s }
	refused(t, in(32, "null: 1"), 0, api.ErrDeep)
	refused(t, in(32, "1: 1"), 0, api.ErrDeep)
	refused(t, in(32, strings.Repeat("x", 4097)+":"), 0, api.ErrDeep)
	refused(t, in(32, "a: 01"), 0, api.ErrDeep)
	refused(t, in(32, `"\ud800": 1`), 0, api.ErrText)
	refused(t, in(32, `"a":1`), 0, api.ErrForm)
	refused(t, in(32, "[]x"), 0, api.ErrForm)
	refused(t, in(32, "[1]"), 0, api.ErrForm)
	refused(t, in(32, "01"), 0, api.ErrNumber)
	refused(t, in(32, "- 01"), 0, api.ErrDeep)
	refused(t, in(31, "1: []"), 0, api.ErrForm)
	refused(t, in(31, "a: []"), 0, api.ErrDeep)
	refused(t, in(31, "a: {}"), 0, api.ErrDeep)
	refused(t, in(31, "a: [] x"), 0, api.ErrForm)
	refused(t, in(31, "a: 1")+"\n"+strings.Repeat("  ", 31)+"a: []", 1, api.ErrTwice)
	refused(t, in(31, "a: 1")+"\n"+strings.Repeat("  ", 31)+"b: []", 1, api.ErrDeep)
	refused(t, in(31, "a:")+"\n"+strings.Repeat("  ", 32)+"- 1", 1, api.ErrDeep)
	refused(t, in(31, "a:")+"\n"+strings.Repeat("  ", 31)+"- 1", 1, api.ErrForm)
	refused(t, "a: 1\n"+in(40, "x"), 1, api.ErrForm)
	refused(t, in(40, "x")+"\n*", 0, api.ErrDeep)
	// Of lists beside each other each lies as deep as the others.
	read(t, in(31, "[]")+"\n"+strings.Repeat("- [] # x\n", 40), value.Row(append([]value.Value{deepList(31)}, repeated(value.Row(), 40)...)...))
}

// deepList is a list in n - 1 lists, without anything.
func deepList(n int) value.Value {
	v := value.Row()
	for range n - 1 {
		v = row(v)
	}
	return v
}

// repeated are n values alike.
func repeated(v value.Value, n int) []value.Value {
	l := make([]value.Value, n)
	for i := range l {
		l[i] = v
	}
	return l
}

// P11.1: documents as great as may be end soon.
func TestGreat(t *testing.T) {
	start := time.Now()
	l := strings.Repeat("-\n", 1<<19)
	read(t, l, value.Row(repeated(null, 1<<19)...))
	refused(t, strings.Repeat("- ", 1<<19), 0, api.ErrDeep)
	refused(t, strings.Repeat("a", 1<<20), 0, api.ErrLong)
	refused(t, strings.Repeat("a:", 1<<19), 0, api.ErrForm)
	refused(t, "a: "+strings.Repeat("a: ", 1<<18), 0, api.ErrForm)
	refused(t, `"`+strings.Repeat("a", 1<<20-2)+`"`, 0, api.ErrLong)
	refused(t, strings.Repeat(`""`, 1<<19), 0, api.ErrForm)
	var b strings.Builder
	var keys []value.Pair
	for i := 0; b.Len() < 1<<20-20; i++ {
		k := "k" + strconv.Itoa(i)
		b.WriteString(k + ": 1\n")
		keys = append(keys, pair(k, one))
	}
	read(t, b.String(), value.Map(keys...))
	refused(t, b.String()+"k0:", len(keys), api.ErrTwice)
	// Far too slow ways take minutes; the machine's own pace plays no part in that.
	if d := time.Since(start); d > time.Minute {
		t.Errorf("that took %v", d)
	}
}
