package json_test

import (
	library "encoding/json"
	"math/rand"
	"regexp"
	"strings"
	"testing"

	"bosun/api"
	"bosun/jlex"
	"bosun/json"
	"bosun/utf"
	"bosun/value"
)

// letters are the words of documents, a letter each, in the order of their Kinds: v is a value, t a text.
const letters = "{}[]:,tvvvvE"

// whole are lists and keys that have all their words, and nothing within but values that are a letter each.
var whole = regexp.MustCompile(`\[\]|\[[vt](?:,[vt])*\]|\{\}|\{t:[vt](?:,t:[vt])*\}`)

// begun is how a document may begin, when what is whole in it is a letter each.
var begun = regexp.MustCompile(`^(?:\[(?:[vt],)*|\{(?:t:[vt],)*t:)*(?:[vt]?|\[(?:[vt],)*[vt]|\{(?:t:[vt],)*(?:t:?|t:[vt])?)$|^[vt]E$`)

// shortened are words, a letter each, and what is whole in them is a letter, too.
func shortened(s string) string {
	for {
		shorter := whole.ReplaceAllString(s, "v")
		if shorter == s {
			return s
		}
		s = shorter
	}
}

// modelMistake is what is wrong with a document, by the chapter's words.
func modelMistake(s string) json.Mistake {
	words, at, e := jlex.Lex(s)
	if e != api.OK {
		return json.Mistake{At: at, Err: e}
	}
	read := ""
	var around []map[string]bool // of each list and all keys that a word is in, which keys were met; nil of lists
	for _, w := range words {
		isValue := strings.HasSuffix(read, ":")
		read = shortened(read + letters[w.Kind:w.Kind+1])
		if !begun.MatchString(read) {
			return json.Mistake{At: w.At, Err: api.ErrForm}
		}
		switch w.Kind {
		case jlex.Begin:
			around = append(around, nil)
		case jlex.Open:
			around = append(around, map[string]bool{})
		case jlex.Stop, jlex.Close:
			around = around[:len(around)-1]
		case jlex.Text:
			if len(around) == 0 || around[len(around)-1] == nil || isValue {
				continue
			}
			met := around[len(around)-1]
			if met[w.Text] {
				return json.Mistake{At: w.At, Err: api.ErrTwice}
			}
			met[w.Text] = true
		}
		if len(around) > 32 {
			return json.Mistake{At: w.At, Err: api.ErrDeep}
		}
	}
	return json.Mistake{}
}

// modelValue is the value of a document, as the library reads it.
func modelValue(d *library.Decoder) value.Value {
	t, err := d.Token()
	if err != nil {
		panic(err)
	}
	switch x := t.(type) {
	case bool:
		return value.Yes(x)
	case string:
		return value.Of(x)
	case library.Number:
		n, err := x.Int64()
		if err != nil {
			panic(err)
		}
		return value.Whole(n)
	case library.Delim:
		v := value.Value{Kind: value.List}
		if x == '{' {
			v.Kind = value.Keys
		}
		for d.More() {
			if x == '{' {
				key := modelValue(d).Text
				v.Keys = append(v.Keys, value.Pair{Key: key, Value: modelValue(d)})
			} else {
				v.List = append(v.List, modelValue(d))
			}
		}
		d.Token()
		return v
	}
	return value.Value{}
}

// hold holds Parse against the model, and P8.2 of what is a document, and says whether it is one.
func hold(t *testing.T, r *rand.Rand, s string) bool {
	t.Helper()
	want := modelMistake(s)
	if want != (json.Mistake{}) {
		refused(t, s, want.At, want.Err)
		return false
	}
	d := library.NewDecoder(strings.NewReader(s))
	d.UseNumber()
	v := modelValue(d)
	read(t, s, v)
	read(t, parted(r, s), v)
	return true
}

// parted are the words of a document, with other blanks between them.
func parted(r *rand.Rand, s string) string {
	words, _, _ := jlex.Lex(s)
	p := blanks(r)
	for i, w := range words[:len(words)-1] {
		p += strings.Trim(s[w.At:words[i+1].At], " \t\n\r") + blanks(r)
		if k := words[i+1].Kind; w.Kind > jlex.Text && k > jlex.Text {
			p += " "
		}
	}
	return p
}

// blanks are some, or none.
func blanks(r *rand.Rand) string {
	return []string{"", "", "", " ", "\t", "\n", "\r", "\r\n  ", strings.Repeat("\t", r.Intn(40))}[r.Intn(9)]
}

// plain are values without parts, as they may be written.
var plain = []string{
	"null", "true", "false", "0", "-0", "7", "-12", "9223372036854775807", "-9223372036854775808",
	`""`, `"a"`, `"\u0061"`, `"b"`, `"é"`, `"\u00e9"`, `"\n\"\\\/"`, `"\ud83d\ude00"`, `"[1,{\"a\":2}]"`, `"null"`,
}

// document is one, of a value so deep at most; now and then a key comes twice in it.
func document(r *rand.Rand, depth int) string {
	kind := r.Intn(3)
	if depth == 0 || kind == 0 {
		return plain[r.Intn(len(plain))]
	}
	l := []string{}
	for range r.Intn(4) {
		v := document(r, depth-1)
		if kind == 1 {
			v = utf.Quote(string("abcdefghijklmnopqrstuvwxyz"[r.Intn(26)])) + blanks(r) + ":" + blanks(r) + v
		}
		l = append(l, blanks(r)+v)
	}
	return "{["[kind-1:kind] + strings.Join(l, blanks(r)+",") + blanks(r) + "}]"[kind-1:kind]
}

// changed is a text with another word, one word more, or one less, or two that changed places.
func changed(r *rand.Rand, s string) string {
	others := append([]string{"{", "}", "[", "]", ":", ",", "", "@", "01"}, plain...)
	words, _, e := jlex.Lex(s)
	if e != api.OK {
		return s
	}
	i := r.Intn(len(words))
	at, behind := words[i].At, len(s)
	if i < len(words)-1 {
		behind = words[i+1].At
	}
	other := others[r.Intn(len(others))]
	switch r.Intn(4) {
	case 0:
		return s[:at] + other + " " + s[behind:]
	case 1:
		return s[:at] + " " + other + " " + s[at:]
	case 2:
		return s[:at] + s[behind:]
	}
	from := words[r.Intn(i+1)].At
	return s[:from] + s[at:behind] + " " + s[from:at] + " " + s[behind:]
}

// P8.1, P8.2: documents, and such as were changed.
func TestAnyDocument(t *testing.T) {
	r := rand.New(rand.NewSource(1))
	right, wrong := 0, 0
	for range 15000 {
		s := document(r, 5)
		for range r.Intn(3) {
			s = changed(r, s)
		}
		if hold(t, r, s) {
			right++
		} else {
			wrong++
		}
		if t.Failed() {
			t.FailNow()
		}
	}
	if right < 3000 || wrong < 3000 {
		t.Errorf("%d of the texts are documents, %d aren't", right, wrong)
	}
}

// P8.1, P8.2: all texts of few words.
func TestFewWords(t *testing.T) {
	r := rand.New(rand.NewSource(2))
	l := []string{"{", "}", "[", "]", ":", ",", `"a"`, `"b"`, "1", "true "}
	texts := []string{""}
	for range 5 {
		var longer []string
		for _, s := range texts {
			for _, w := range l {
				longer = append(longer, s+w)
			}
		}
		for _, s := range longer {
			hold(t, r, s)
		}
		texts = longer
	}
}

// P8.1: keys, of which some come twice, within each other.
func TestAnyKeys(t *testing.T) {
	r := rand.New(rand.NewSource(3))
	parts := []string{`{"a":`, `{"b":`, `{"c":`, `,"a":`, `,"b":`, `,"c":`, `,"\u0061":`, "1", "1", `"a"`, "{}", "}", "}", `["a","a"]`}
	for range 5000 {
		s := `{"x":`
		for range r.Intn(16) {
			// What may not stand there is left out, mostly, so that the texts go on.
			if p := parts[r.Intn(len(parts))]; modelMistake(s+p).At >= len(s+p) || r.Intn(40) == 0 {
				s += p
			}
		}
		hold(t, r, s)
		hold(t, r, s+parts[r.Intn(len(parts))])
		hold(t, r, s+"}")
	}
}

// P8.1: lists and keys about the limit of depth.
func TestAnyDepth(t *testing.T) {
	r := rand.New(rand.NewSource(4))
	for range 300 {
		s, n := "", 28+r.Intn(6)
		closing := ""
		for i := range n {
			switch r.Intn(3) {
			case 0:
				s, closing = s+"[", "]"+closing
			case 1:
				s, closing = s+`["x",[],`, "]"+closing
			case 2:
				s, closing = s+`{"b":{},"a":`, `,"c":1}`+closing
			}
			if i == n-1 && r.Intn(8) == 0 {
				s += "}"
			}
		}
		hold(t, r, s+plain[r.Intn(len(plain))]+closing)
		hold(t, r, s+document(r, 3)+closing)
		hold(t, r, s)
	}
}

// R1, W6: whatever bytes are handed in.
func TestAnyBytes(t *testing.T) {
	r := rand.New(rand.NewSource(5))
	for range 30000 {
		s := []byte(document(r, 3))
		for range r.Intn(3) {
			if len(s) > 0 {
				s[r.Intn(len(s))] = byte(r.Intn(256))
			}
		}
		hold(t, r, string(s[:r.Intn(len(s)+1)]))
		b := make([]byte, r.Intn(10))
		r.Read(b)
		hold(t, r, string(b))
	}
}
