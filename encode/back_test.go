package encode_test

import (
	"fmt"
	"math/rand"
	"strings"
	"testing"

	"bosun/api"
	"bosun/decode"
	"bosun/encode"
	"bosun/jprint"
	"bosun/json"
	"bosun/spec"
	"bosun/value"
	"bosun/yaml"
	"bosun/yprint"
)

// decoded holds that a document is that of a pod.
func decoded(t *testing.T, what string, v value.Value, p spec.Pod) {
	t.Helper()
	if q, e := decode.Pod(v); e != api.OK || !q.Same(p) {
		t.Errorf("what is read of %s is %s and %v, not %s", what, short(q), e, short(p))
	}
}

// back holds that a pod that may be is read as it was, from its document, from its JSON and from its YAML; from what is
// written is told how much that was. What would be longer than a file may be isn't written.
func back(t *testing.T, p spec.Pod) (jsons, yamls int) {
	t.Helper()
	if e := p.Check(); e != api.OK {
		t.Fatalf("%s has the Check %v", short(p), e)
	}
	v := encode.Pod(p)
	if e := v.Check(); e != api.OK {
		t.Errorf("the document of %s has the Check %v", short(p), e)
	}
	decoded(t, "the document", v, p)
	switch s, e := jprint.Print(v); e {
	case api.OK:
		w, m := json.Parse(s)
		if m != (json.Mistake{}) || !w.Same(v) {
			t.Errorf("%s is read as %s and %v", short(s), short(w), m)
		}
		decoded(t, "the JSON", w, p)
		jsons = len(s)
	case api.ErrLong:
	default:
		t.Errorf("the JSON of %s is %v", short(p), e)
	}
	switch s, e := yprint.Print(v); e {
	case api.OK:
		w, m := yaml.Parse(s)
		if m != (yaml.Mistake{}) || !w.Same(v) {
			t.Errorf("%s is read as %s and %v", short(s), short(w), m)
		}
		decoded(t, "the YAML", w, p)
		yamls = len(s)
	case api.ErrLong:
	default:
		t.Errorf("the YAML of %s is %v", short(p), e)
	}
	return jsons, yamls
}

// writable is back, of a pod that isn't too long to be written.
func writable(t *testing.T, p spec.Pod) {
	t.Helper()
	if jsons, yamls := back(t, p); jsons == 0 || yamls == 0 {
		t.Errorf("%s isn't written", short(p))
	}
}

// P16.2: pods with as much, and as little, as may be.
func TestBack(t *testing.T) {
	label, long := strings.Repeat("a", 63), strings.Repeat("x", 4096)
	writable(t, podOf(small("c")))
	writable(t, podOf(full("d"), small("c")))
	writable(t, spec.Pod{Name: "web", Containers: []spec.Container{{Name: "c", Image: "nginx"}}}.Default())
	writable(t, spec.Pod{Name: "a", Namespace: "b", Grace: 1, Containers: []spec.Container{{Name: "c", Image: "d", Cpu: 1, Memory: 1}}})
	for _, restart := range []spec.Restart{spec.Always, spec.OnFailure, spec.Never} {
		for _, host := range []bool{false, true} {
			for _, proto := range []spec.Proto{spec.TCP, spec.UDP} {
				writable(t, spec.Pod{
					Name: strings.Join([]string{label, label, label, label[:61]}, "."), Namespace: label, Restart: restart, Grace: 3600, Host: host,
					Containers: []spec.Container{{
						Name: label, Image: strings.Repeat("i", 255), Command: []string{long, "", long}, Ports: []spec.Port{{Number: 65535, Proto: proto}},
						Cpu: 64000, Memory: 1 << 20, Env: []spec.Env{{Name: strings.Repeat("_", 63), Value: long}},
					}},
				})
			}
		}
	}
}

// filled is a pod of so many containers, each with as many items as may be, whose texts are all the same.
func filled(n int, s string) spec.Pod {
	p := podOf()
	for i := range n {
		c := small("c" + fmt.Sprint(i))
		for j := range 16 {
			c.Command = append(c.Command, s)
			c.Ports = append(c.Ports, spec.Port{Number: int64(j/2) + 1, Proto: spec.Proto(j % 2)})
			c.Env = append(c.Env, spec.Env{Name: fmt.Sprint("N", j), Value: s})
		}
		p.Containers = append(p.Containers, c)
	}
	return p
}

// P16.2: texts that say something else in YAML, in JSON or to the pod itself, if they aren't quoted; every byte, too.
func TestBackOfTexts(t *testing.T) {
	texts := []string{
		"", " ", "null", "true", "false", "0", "-1", "1", "[]", "{}", "[", "{", "-", "- a", "a: b", "a:", ":", "# a", "a # b", "\"", "\"a\"", "\\", "'a'", "\n", "\r\n", "\t",
		"a\nb: c", "\x00", "\x1f", "\x7f", "é", "😀", "\u2028", "\ufeff", "\ufffd", "\U0010ffff", "always", "none", "name", "containers", "|", ">", "&a", "*a", "!a", "%", "@", "`", "---", "...", " a ",
	}
	for c := range 256 {
		texts = append(texts, string(rune(c)))
	}
	for _, s := range texts {
		writable(t, filled(2, s))
	}
}

// P16.2: pods with as much in each list as may be; those that are too long for a file are read of their documents alone.
func TestBackOfManyItems(t *testing.T) {
	for n := range 16 {
		writable(t, filled(n+1, "a text"))
	}
	long := filled(16, strings.Repeat("x", 4096))
	if jsons, yamls := back(t, long); jsons != 0 || yamls != 0 {
		t.Errorf("of a file of %d and %d bytes nothing was held", jsons, yamls)
	}
	writable(t, filled(7, strings.Repeat("x", 4096)))
}

// maker makes random pods that may be.
type maker struct{ *rand.Rand }

// of is a text of that many of those bytes.
func (m maker) of(bytes string, n int) string {
	b := make([]byte, n)
	for i := range b {
		b[i] = bytes[m.Intn(len(bytes))]
	}
	return string(b)
}

const (
	small26 = "abcdefghijklmnopqrstuvwxyz"
	digits  = "0123456789"
)

// size is a number of bytes, mostly a few, seldom so many as may be.
func (m maker) size(most int) int {
	if m.Intn(20) == 0 {
		return most
	}
	return m.Intn(min(most, 8)) + 1
}

func (m maker) label() string {
	n := m.size(63)
	if n == 1 {
		return m.of(small26+digits, 1)
	}
	return m.of(small26+digits, 1) + m.of(small26+digits+"-", n-2) + m.of(small26+digits, 1)
}

func (m maker) name() string {
	l := make([]string, m.Intn(3)+1)
	for i := range l {
		l[i] = m.label()
	}
	return strings.Join(l, ".")
}

// text is one of characters of all kinds.
func (m maker) text() string {
	if m.Intn(50) == 0 {
		return m.of(small26, 4096)
	}
	signs := []rune{0, '\n', '"', '\\', ' ', ':', '#', '-', 'a', '0', '[', '{', 0x7f, 'é', 0x2028, 0x1f600, 0x10ffff}
	var b strings.Builder
	for range m.Intn(8) {
		b.WriteRune(signs[m.Intn(len(signs))])
	}
	return b.String()
}

func (m maker) port() spec.Port {
	return spec.Port{Number: m.Int63n(65535) + 1, Proto: spec.Proto(m.Intn(2))}
}

func (m maker) env() spec.Env {
	return spec.Env{Name: m.of("ABCxyz_", 1) + m.of("ABCxyz_"+digits, m.size(62)), Value: m.text()}
}

func (m maker) container() spec.Container {
	return spec.Container{
		Name: m.label(), Image: m.of(small26+digits, 1) + m.of(small26+"ABC"+digits+"._-/:@", m.size(254)), Command: items(m, m.text), Ports: items(m, m.port),
		Cpu: m.Int63n(64000) + 1, Memory: m.Int63n(1<<20) + 1, Env: items(m, m.env),
	}
}

func (m maker) pod() spec.Pod {
	return spec.Pod{
		Name: m.name(), Namespace: m.label(), Restart: spec.Restart(m.Intn(3)), Grace: m.Int63n(3600) + 1, Host: m.Intn(2) == 0,
		Containers: append(items(m, m.container), m.container()),
	}
}

// items are none to four of them.
func items[T any](m maker, item func() T) []T {
	l := make([]T, m.Intn(5))
	for i := range l {
		l[i] = item()
	}
	return l
}

// P16.2: random pods that may be; of two that aren't alike the documents aren't, too.
func TestBackOfMany(t *testing.T) {
	m := maker{rand.New(rand.NewSource(1))}
	var last spec.Pod
	held := 0
	for range 6000 {
		p := m.pod()
		if p.Check() != api.OK {
			continue // two of its names are one, or a name is too long
		}
		writable(t, p)
		if encode.Pod(p).Same(encode.Pod(last)) != p.Same(last) {
			t.Errorf("%s and %s have one document", short(p), short(last))
		}
		last = p
		held++
		if t.Failed() {
			t.FailNow()
		}
	}
	if held < 4000 {
		t.Errorf("only %d pods were held", held)
	}
}
