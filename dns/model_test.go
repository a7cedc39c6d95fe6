package dns_test

import (
	"math/rand"
	"regexp"
	"slices"
	"strings"
	"testing"

	"bosun/dns"
)

// What texts may be, by the chapter's words; a name is held label by label.
var (
	labelWords    = regexp.MustCompile(`^[a-z0-9](?:[a-z0-9-]{0,61}[a-z0-9])?$`)
	variableWords = regexp.MustCompile(`^[A-Za-z_][A-Za-z0-9_]{0,62}$`)
	imageWords    = regexp.MustCompile(`^[a-z0-9][a-zA-Z0-9._/:@-]{0,254}$`)
)

// model is the parts of a text; none, if it is no name.
func model(s string) []string {
	l := strings.Split(s, ".")
	if len(s) > 253 || slices.ContainsFunc(l, func(x string) bool { return !labelWords.MatchString(x) }) {
		return nil
	}
	return l
}

// hold holds all calls against the model, and says whether the text is a name.
func hold(t *testing.T, s string) bool {
	t.Helper()
	parts := model(s)
	held(t, "Label", dns.Label, s, labelWords.MatchString(s))
	held(t, "Name", dns.Name, s, parts != nil)
	held(t, "Variable", dns.Variable, s, variableWords.MatchString(s))
	held(t, "Image", dns.Image, s, imageWords.MatchString(s))
	l := dns.Parts(s)
	if !slices.Equal(l, parts) {
		t.Fatalf("Parts(%.300q) is %.300q, not %.300q", s, l, parts)
	}
	if parts != nil {
		holdParts(t, s, l)
	}
	return parts != nil
}

// holdParts holds P13.2 of a name's parts: put together they are the name, each of them is a label, and a name of that
// one part; a name of one part is a label.
func holdParts(t *testing.T, s string, l []string) {
	t.Helper()
	if strings.Join(l, ".") != s {
		t.Fatalf("the parts of %.300q are %.300q", s, l)
	}
	for _, x := range l {
		if !dns.Label(x) || !dns.Name(x) || !slices.Equal(dns.Parts(x), []string{x}) {
			t.Fatalf("the part %q of %.300q is no label, or no name", x, s)
		}
	}
	if dns.Label(s) != (len(l) == 1) {
		t.Fatalf("%.300q, of %d parts, has the Label %v", s, len(l), dns.Label(s))
	}
}

// P13.1, P13.2: all texts of a few of the bytes that count.
func TestAllShortTexts(t *testing.T) {
	const signs = "a9-.A_/"
	hold(t, "")
	texts := []string{""}
	for range 6 {
		var longer []string
		for _, s := range texts {
			for i := range signs {
				hold(t, s+signs[i:i+1])
				longer = append(longer, s+signs[i:i+1])
			}
		}
		texts = longer
	}
}

// P13.1, P13.2: all texts of two bytes.
func TestAllPairs(t *testing.T) {
	for i := range 256 {
		for j := range 256 {
			hold(t, string([]byte{byte(i), byte(j)}))
		}
	}
}

// anyName is a text put together of labels and points, few of which are wrong.
func anyName(r *rand.Rand) string {
	wrong := []string{"-", "_", "A", ".", "é", "\xff", " ", "/", ":", "@", "\n", "\x00"}
	var labels []string
	for range 1 + r.Intn(8) {
		n := 1 + r.Intn(6)
		if r.Intn(3) == 0 {
			n = 50 + r.Intn(15)
		}
		b := make([]byte, n)
		for i := range b {
			b[i] = (small + digits + "-")[r.Intn(37)]
		}
		labels = append(labels, string(b))
	}
	s := strings.Join(labels, ".")
	if r.Intn(4) == 0 {
		i := r.Intn(len(s) + 1)
		s = s[:i] + wrong[r.Intn(len(wrong))] + s[i:]
	}
	return s
}

// P13.1, P13.2, R1: whatever is handed in.
func TestAnything(t *testing.T) {
	r := rand.New(rand.NewSource(1))
	good := 0
	for range 100000 {
		if hold(t, anyName(r)) {
			good++
		}
	}
	if good < 20000 || good > 80000 {
		t.Errorf("of 100000 texts %d are names", good)
	}
	for range 50000 {
		b := make([]byte, r.Intn(80))
		for i := range b {
			b[i] = (small + capital + digits + "._-/:@")[r.Intn(68)]
		}
		hold(t, string(b))
		if len(b) > 0 {
			b[r.Intn(len(b))] = byte(r.Intn(256))
			hold(t, string(b))
		}
	}
	for range 20000 {
		b := make([]byte, r.Intn(12))
		r.Read(b)
		hold(t, string(b))
	}
}
