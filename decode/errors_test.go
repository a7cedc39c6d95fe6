package decode_test

import (
	"fmt"
	"slices"
	"strconv"
	"strings"
	"testing"

	"bosun/api"
	"bosun/spec"
	"bosun/value"
)

// kinds are values of each Kind but Null.
func kinds() []value.Value {
	return []value.Value{
		value.Yes(false), value.Yes(true), value.Whole(0), value.Whole(1), value.Of(""), value.Of("always"),
		value.Row(), value.Row(value.Of("x")), value.Map(), value.Map(value.Pair{Key: "name", Value: value.Of("x")}),
	}
}

// P15.1: each key with a value of each other Kind.
func TestTypes(t *testing.T) {
	for _, f := range fields() {
		for _, x := range kinds() {
			if x.Kind != f.kind {
				refused(t, f.key, changed(doc(fullText), f.path, with(f.key, x)), api.ErrType)
			}
		}
	}
}

// P15.1: a document that is no keys.
func TestNoKeys(t *testing.T) {
	for _, x := range append(kinds(), nulls()...) {
		if x.Kind != value.Keys {
			refused(t, "no keys", x, api.ErrType)
		}
	}
	refused(t, "a list of a document", value.Row(doc(fullText)), api.ErrType)
}

// P15.1: in lists, values of other Kinds, and null, at each place.
func TestTypesOfItems(t *testing.T) {
	for _, l := range []struct {
		path []any
		kind value.Kind
	}{
		{[]any{"containers"}, value.Keys},
		{[]any{"containers", 0, "command"}, value.Text},
		{[]any{"containers", 1, "command"}, value.Text},
		{[]any{"containers", 0, "ports"}, value.Keys},
		{[]any{"containers", 1, "ports"}, value.Keys},
		{[]any{"containers", 0, "env"}, value.Keys},
		{[]any{"containers", 1, "env"}, value.Keys},
	} {
		for _, x := range append(kinds(), nulls()...) {
			if x.Kind == l.kind {
				continue
			}
			for place := range 3 {
				v := changed(doc(fullText), l.path, func(y *value.Value) { y.List = slices.Insert(y.List, place, x) })
				refused(t, "an item", v, api.ErrType)
			}
			v := changed(doc(fullText), l.path, func(y *value.Value) { *y = value.Row(x) })
			refused(t, "the only item", v, api.ErrType)
		}
	}
}

// noFields are keys that there aren't in a pod, in a container, in a port and in a variable; those of the others, too.
func noFields() map[string][]string {
	of := map[string][]string{
		"pod":       {"name", "namespace", "restart", "grace", "host", "containers"},
		"container": {"name", "image", "command", "ports", "cpu", "memory", "env"},
		"port":      {"number", "proto"},
		"variable":  {"name", "value"},
	}
	met := map[string]bool{}
	for _, l := range of {
		for _, key := range l {
			for _, s := range []string{key, strings.ToUpper(key), strings.ToUpper(key[:1]) + key[1:], key + " ", " " + key, key + "s", key[1:], key[:len(key)-1], "\"" + key + "\"", key + "\x00"} {
				met[s] = true
			}
		}
	}
	for _, s := range []string{"", "x", "null", "true", "é", "0", "container", "annotations", strings.Repeat("x", 4096)} {
		met[s] = true
	}
	out := map[string][]string{}
	for place, l := range of {
		for s := range met {
			if !slices.Contains(l, s) {
				out[place] = append(out[place], s)
			}
		}
	}
	return out
}

// paths are where a pod, a container, a port and a variable stand.
func paths() map[string][][]any {
	return map[string][][]any{
		"pod":       {nil},
		"container": {{"containers", 0}, {"containers", 1}},
		"port":      {{"containers", 0, "ports", 1}, {"containers", 1, "ports", 0}},
		"variable":  {{"containers", 0, "env", 0}, {"containers", 1, "env", 1}},
	}
}

// P15.1: keys that there aren't, whatever value they have, null, too, at each place of the order.
func TestNoFields(t *testing.T) {
	no := noFields()
	for place, l := range paths() {
		for _, path := range l {
			for _, key := range no[place] {
				v := changed(doc(fullText), path, func(x *value.Value) { *x = value.Map(append([]value.Pair{{Key: key}}, x.Keys...)...) })
				refused(t, place, v, api.ErrField)
				v = changed(doc(fullText), path, with(key, value.Value{}))
				refused(t, place, v, api.ErrField)
			}
			if t.Failed() {
				t.FailNow()
			}
			for _, x := range append(kinds(), nulls()...) {
				v := copyOf(doc(fullText))
				for i := range len(at(&v, path...).Keys) + 1 {
					v := changed(v, path, func(y *value.Value) { y.Keys = slices.Insert(y.Keys, i, value.Pair{Key: "x", Value: x}) })
					refused(t, place, v, api.ErrField)
				}
			}
		}
	}
}

// noWords are none of restart, nor of proto.
var noWords = []string{
	"", " ", "none", "null", "Always", "ALWAYS", "always ", " always", "alway", "alwayss", "always\x00", "On-Failure", "on-Failure", "onfailure", "OnFailure",
	"on_failure", "on failure", "on-failures", "Never", "NEVER", "never\n", "0", "1", "2", "TCP", "UDP", "Tcp", "Udp", "tcp ", " udp", "tc", "tcpp", "sctp", "é", "tcp,udp",
}

// P15.1: words of restart and of proto.
func TestWords(t *testing.T) {
	restarts := map[string]spec.Restart{"always": spec.Always, "on-failure": spec.OnFailure, "never": spec.Never}
	protos := map[string]spec.Proto{"tcp": spec.TCP, "udp": spec.UDP}
	proto := []any{"containers", 0, "ports", 1}
	for s, r := range restarts {
		want := fullPod()
		want.Restart = r
		hold(t, "restart "+s, changed(doc(fullText), nil, with("restart", value.Of(s))), want)
		refused(t, "proto "+s, changed(doc(fullText), proto, with("proto", value.Of(s))), api.ErrForm)
	}
	for s, r := range protos {
		want := fullPod()
		want.Containers[0].Ports[1].Proto = r
		hold(t, "proto "+s, changed(doc(fullText), proto, with("proto", value.Of(s))), want)
		refused(t, "restart "+s, changed(doc(fullText), nil, with("restart", value.Of(s))), api.ErrForm)
	}
	for _, s := range noWords {
		refused(t, "restart "+s, changed(doc(fullText), nil, with("restart", value.Of(s))), api.ErrForm)
		for _, path := range paths()["port"] {
			refused(t, "proto "+s, changed(doc(fullText), path, with("proto", value.Of(s))), api.ErrForm)
		}
	}
}

// P15.1: the value's Check's error is ahead of all others, wherever it shows.
func TestCheckOfTheValue(t *testing.T) {
	deep := value.Row()
	for range 31 {
		deep = value.Row(deep)
	}
	errs := []struct {
		x value.Value
		e api.Errno
	}{
		{deep, api.ErrDeep},
		{value.Value{Kind: 6}, api.ErrType},
		{value.Value{Kind: -1}, api.ErrType},
		{value.Of("\xff"), api.ErrText},
		{value.Of(strings.Repeat("x", 4097)), api.ErrLong},
		{value.Map(value.Pair{Key: "\xc0"}), api.ErrText},
		{value.Map(value.Pair{Key: strings.Repeat("x", 4097)}), api.ErrLong},
		{value.Map(value.Pair{Key: "a"}, value.Pair{Key: "a"}), api.ErrTwice},
	}
	for _, c := range errs {
		for _, f := range fields() {
			v := changed(doc(fullText), f.path, with(f.key, c.x))
			refused(t, f.key, v, c.e)
			for _, key := range []string{"x", "name"} {
				refused(t, f.key+" behind another error", value.Map(value.Pair{Key: key, Value: value.Yes(true)}, value.Pair{Key: "host", Value: v}), c.e)
			}
		}
		for place, l := range paths() {
			v := changed(doc(fullText), l[0], with("x", c.x))
			refused(t, "a key more in a "+place, v, c.e)
		}
		refused(t, "in a list", value.Row(value.Value{}, c.x), c.e)
	}
	for _, c := range errs[1:] {
		refused(t, "alone", c.x, c.e)
	}
	refused(t, "as deep as may be", deep, api.ErrType)
}

// P15.1: a key that is there twice is the value's Check's error, be it with null.
func TestTwice(t *testing.T) {
	for _, f := range fields() {
		for _, x := range append(kinds(), nulls()...) {
			twice := value.Pair{Key: f.key, Value: x}
			v := changed(doc(fullText), f.path, func(y *value.Value) { y.Keys = append(y.Keys, twice) })
			refused(t, f.key, v, api.ErrTwice)
			v = changed(doc(fullText), f.path, func(y *value.Value) { y.Keys = slices.Insert(y.Keys, 0, twice) })
			refused(t, f.key, v, api.ErrTwice)
		}
	}
}

// spot is a place at which something may be wrong, and with which error.
type spot struct {
	e    api.Errno
	path []any
	do   func(x *value.Value)
}

// spoil makes it wrong there, if there is such a place.
func (s spot) spoil(v *value.Value) bool {
	x := at(v, s.path...)
	if x == nil {
		return false
	}
	s.do(x)
	return true
}

// what tells a spot.
func (s spot) what() string { return s.e.Word() + " at " + fmt.Sprint(s.path) }

// set is a spot at which a value is another one.
func set(e api.Errno, x value.Value, path ...any) spot {
	return spot{e, slices.Clone(path), func(y *value.Value) { *y = copyOf(x) }}
}

// walker collects spots of a document, in the order of the section 'Errors'.
type walker struct{ l []spot }

// more adds a spot at which there is a key that should not be, behind another one, or ahead of all.
func (w *walker) more(path []any, behind string) {
	key := "more" + strconv.Itoa(len(w.l))
	w.l = append(w.l, spot{api.ErrField, slices.Clone(path), func(x *value.Value) {
		i := slices.IndexFunc(x.Keys, func(p value.Pair) bool { return p.Key == behind }) + 1
		x.Keys = slices.Insert(x.Keys, i, value.Pair{Key: key})
	}})
}

// value adds the spots of a value.
func (w *walker) value(path []any, v value.Value) {
	other := value.Of("x")
	if v.Kind == value.Text {
		other = value.Yes(true)
	}
	w.l = append(w.l, set(api.ErrType, other, path...))
	if s := path[len(path)-1]; s == "restart" || s == "proto" {
		w.l = append(w.l, set(api.ErrForm, value.Of("none"), path...))
	}
	for i, x := range v.List {
		w.value(append(slices.Clone(path), i), x)
	}
	w.keys(path, v)
}

// keys adds the spots of keys.
func (w *walker) keys(path []any, v value.Value) {
	for i, p := range v.Keys {
		if i == 0 {
			w.more(path, "")
		}
		w.value(append(slices.Clone(path), p.Key), p.Value)
		w.more(path, p.Key)
	}
}

// P15.1: each error alone, and of each two the one that is told first, by the order of keys and of items, whatever that
// is; and all of them ahead of what layer 14's Check finds.
func TestTwoErrors(t *testing.T) {
	v := copyOf(doc(fullText))
	for turn := range 2 {
		var w walker
		w.keys(nil, v)
		if len(w.l) < 100 {
			t.Fatalf("only %d spots", len(w.l))
		}
		for i, first := range w.l {
			x := copyOf(v)
			first.spoil(&x)
			refused(t, first.what(), x, first.e)
			for _, second := range w.l[i+1:] {
				x := copyOf(v)
				// The later one goes first, for the other one may do away with its place.
				second.spoil(&x)
				first.spoil(&x)
				refused(t, first.what()+", and "+second.what(), x, first.e)
			}
			if t.Failed() {
				t.FailNow()
			}
		}
		if turn == 0 {
			reverse(v)
		}
	}
}

// reverse turns the order of keys and items round.
func reverse(v value.Value) {
	slices.Reverse(v.List)
	slices.Reverse(v.Keys)
	for _, x := range v.List {
		reverse(x)
	}
	for _, p := range v.Keys {
		reverse(p.Value)
	}
}

// atLast are spots at which layer 14's Check finds something wrong.
func atLast() []spot {
	many := func(l []value.Value) value.Value {
		for len(l) < 17 {
			l = append(l, l[len(l)-1])
		}
		return value.Row(l...)
	}
	full := doc(fullText)
	first := func(key string) []value.Value { return at(&full, "containers", 0, key).List[:1:1] }
	return []spot{
		set(api.ErrName, value.Of("A"), "name"),
		set(api.ErrName, value.Of(""), "name"),
		set(api.ErrName, value.Of(strings.Repeat("a.", 127)), "name"),
		set(api.ErrName, value.Of("a.b"), "namespace"),
		set(api.ErrRange, value.Whole(-1), "grace"),
		set(api.ErrRange, value.Whole(3601), "grace"),
		set(api.ErrNone, value.Row(), "containers"),
		set(api.ErrFull, many(at(&full, "containers").List), "containers"),
		set(api.ErrName, value.Of("a.b"), "containers", 0, "name"),
		set(api.ErrName, value.Of(""), "containers", 1, "name"),
		set(api.ErrTwice, value.Of("first"), "containers", 1, "name"),
		set(api.ErrForm, value.Of("Nginx"), "containers", 0, "image"),
		set(api.ErrForm, value.Of(""), "containers", 1, "image"),
		set(api.ErrFull, many(first("command")), "containers", 0, "command"),
		set(api.ErrFull, many(first("ports")), "containers", 1, "ports"),
		set(api.ErrFull, many(first("env")), "containers", 1, "env"),
		set(api.ErrRange, value.Whole(-1), "containers", 0, "cpu"),
		set(api.ErrRange, value.Whole(64001), "containers", 1, "cpu"),
		set(api.ErrRange, value.Whole(-1), "containers", 0, "memory"),
		set(api.ErrRange, value.Whole(1048577), "containers", 1, "memory"),
		set(api.ErrRange, value.Whole(0), "containers", 0, "ports", 0, "number"),
		set(api.ErrRange, value.Whole(65536), "containers", 1, "ports", 1, "number"),
		set(api.ErrTwice, value.Whole(80), "containers", 0, "ports", 1, "number"),
		set(api.ErrTwice, value.Of("tcp"), "containers", 1, "ports", 1, "proto"),
		set(api.ErrName, value.Of("1"), "containers", 0, "env", 0, "name"),
		set(api.ErrTwice, value.Of("A"), "containers", 1, "env", 1, "name"),
	}
}

// P15.1: at last, with defaults, layer 14's Check's errors; they are behind all others, wherever these show.
func TestAtLast(t *testing.T) {
	var w walker
	w.keys(nil, doc(fullText))
	for _, last := range atLast() {
		v := copyOf(doc(fullText))
		last.spoil(&v)
		refused(t, last.what(), v, last.e)
		held := 0
		for _, first := range w.l {
			x := copyOf(v)
			if first.spoil(&x) {
				refused(t, first.what()+", and "+last.what(), x, first.e)
				held++
			}
		}
		if t.Failed() {
			t.FailNow()
		}
		if held < 10 {
			t.Errorf("%s was held against %d errors", last.what(), held)
		}
	}
}
