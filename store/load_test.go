package store_test

import (
	"fmt"
	"reflect"
	"strings"
	"testing"

	"bosun/api"
	"bosun/ckpt"
	"bosun/ckthree"
	"bosun/frame"
	"bosun/simfs"
	"bosun/spec"
	"bosun/store"
)

// byHand is a checkpoint that was written by hand, and what it says.
type byHand struct {
	what, b string
	want    answer
}

// elders are checkpoints of the elder versions.
func elders() []byHand {
	state := func(restart spec.Restart, namespace string, grace int64, l ...spec.Container) ckthree.State {
		p := spec.Pod{Name: "n", Namespace: namespace, Restart: restart, Grace: grace, Containers: l}
		return ckthree.State{Seq: 258, Pods: []ckthree.Pod{{File: "f", Pod: p}}}
	}
	container := func(name, image string) spec.Container {
		return spec.Container{Name: name, Image: image, Cpu: 100, Memory: 64}
	}
	return []byHand{
		{"version 1", "PODC\x01\x00\x00\x00\x10" + "\x00\x00\x01\x02\x00\x01" + "\x00\x01f\x00\x01n\x00\x01i\x01" + "\xdb\x09\x79\x2c",
			answer{state(1, "default", 30, container("main", "i")), 1, api.OK}},
		{"version 2", "PODC\x02\x00\x00\x00\x23" + "\x00\x00\x00\x00\x00\x00\x01\x02\x00\x01" + "\x00\x01f\x00\x01n\x00\x01s\x02\x01\x03\x02" +
			"\x00\x01c\x00\x01i" + "\x00\x01d\x00\x01j" + "\xba\x08\xcd\x14",
			answer{state(2, "s", 259, container("c", "i"), container("d", "j")), 2, api.OK}},
	}
}

// framed is a frame.
func framed(version uint8, payload string) string {
	b, _ := frame.Close(version, payload)
	return b
}

// damaged are files that are no checkpoints, and what layer 21 says of each.
func damaged(t *testing.T) []byHand {
	t.Helper()
	b := checkpoint(t, plain(7, 1))
	payload := b[9 : len(b)-4]
	turned := func(at int) string { return b[:at] + string([]byte{b[at] ^ 4}) + b[at+1:] }
	l := []byHand{
		{"empty", "", wrong(api.ErrShort)},
		{"no checkpoint", "no checkpoint", wrong(api.ErrMagic)},
		{"something behind it", b + "\x00", wrong(api.ErrForm)},
		{"itself behind it", b + b, wrong(api.ErrForm)},
		{"the payload alone", payload, wrong(api.ErrMagic)},
		{"too long", "PODC\x03\x00\x40\x00\x01", wrong(api.ErrLong)},
		{"another version, the sum as it was", b[:4] + "\x02" + b[5:], wrong(api.ErrSum)},
		{"a payload of another version", framed(1, payload), wrong(api.ErrForm)},
		{"no payload", framed(3, ""), wrong(api.ErrShort)},
		{"something behind the payload", framed(3, payload+"x"), wrong(api.ErrForm)},
		{"a File that is none", framed(3, strings.Replace(payload, "pods/", "PODS/", 1)), wrong(api.ErrName)},
		{"a Restart that is none", framed(3, strings.Replace(payload, "default\x00", "default\x03", 1)), wrong(api.ErrRange)},
		{"too many pods", framed(3, "\x00\x00\x00\x00\x00\x00\x00\x01\x04\x01"), wrong(api.ErrFull)},
	}
	for n := range len(b) {
		l = append(l, byHand{fmt.Sprint("cut off at ", n), b[:n], wrong(api.ErrShort)})
	}
	for at := range len(b) {
		switch {
		case at < 4:
			l = append(l, byHand{fmt.Sprint("turned at ", at), turned(at), wrong(api.ErrMagic)})
		case at >= 9:
			l = append(l, byHand{fmt.Sprint("turned at ", at), turned(at), wrong(api.ErrSum)})
		}
	}
	for _, version := range []uint8{0, 4, 5, 127, 255} {
		l = append(l, byHand{fmt.Sprint("version ", version), framed(version, payload), wrong(api.ErrVersion)})
	}
	return l
}

// P22.1: of a system without the file state: the zero state, and 0, whatever else there is.
func TestLoadOfNone(t *testing.T) {
	b := checkpoint(t, plain(3, 2))
	for _, start := range []map[string]string{
		{}, {saving: b}, {saving: ""}, {"stat": b, "state.": b, "state.t": b, "a/state": b, "state/a": b, "tmp": b, "pods/state": b},
	} {
		f := system(t, start)
		steps := f.Steps()
		gives(t, "Load of no state", load(store.New(f)), none())
		has(t, "Load of no state", f, start)
		counts(t, "Load of no state", f, steps, 0, false)
	}
}

// P22.1: what Save left; the file state.tmp plays no part.
func TestLoadOfSaved(t *testing.T) {
	for _, pods := range []int{0, 1, 2, 5, 100} {
		x := plain(uint64(pods)+1, pods)
		f := simfs.New()
		s := store.New(f)
		well(t, s.Save(x))
		gives(t, "Load", load(s), this(x))
		gives(t, "Load again", load(s), this(x))
		gives(t, "Load of another store", load(store.New(f)), this(x))
		counts(t, "Load", f, 4, 0, false)
		well(t, f.Write(saving, checkpoint(t, plain(9, 1))))
		gives(t, "with state.tmp", load(s), this(x))
		well(t, f.Write(saving, ""), f.Sync(saving), f.SyncDir())
		gives(t, "with an empty state.tmp", load(s), this(x))
		has(t, "Load", f, map[string]string{kept: checkpoint(t, x), saving: ""})
	}
}

// P22.1: checkpoints of elder versions, written by hand; what is saved behind them is of version 3.
func TestLoadOfElders(t *testing.T) {
	for _, c := range elders() {
		f := system(t, map[string]string{kept: c.b})
		s := store.New(f)
		gives(t, c.what, load(s), c.want)
		gives(t, c.what, recovered(s), c.want)
		has(t, c.what, f, map[string]string{kept: c.b})
		well(t, f.Write(saving, "x"))
		gives(t, c.what+", with state.tmp", load(s), c.want)
		gives(t, c.what+", with state.tmp", recovered(s), c.want)
		has(t, c.what, f, map[string]string{kept: c.b})
		well(t, s.Save(c.want.x))
		gives(t, c.what+", saved anew", load(s), this(c.want.x))
		well(t, f.Write(kept, c.b))
		gives(t, c.what+", written again", load(s), c.want)
	}
}

// P22.1: a file state that is no checkpoint: Load's error of layer 21 alone; it stays as it is, and is saved over.
func TestLoadOfDamaged(t *testing.T) {
	for _, c := range damaged(t) {
		if _, _, e := ckpt.Load(c.b); e != c.want.e {
			t.Fatalf("%s: of %q layer 21 says %v, not %v", c.what, short(c.b), e, c.want.e)
		}
		start := map[string]string{kept: c.b}
		f := system(t, start)
		s := store.New(f)
		gives(t, c.what, load(s), c.want)
		counts(t, c.what, f, 3, 0, false)
		gives(t, c.what+", recovered", recovered(s), c.want)
		counts(t, c.what+", recovered", f, 3, 0, false)
		well(t, f.Write(saving, "x"))
		gives(t, c.what+", with state.tmp", load(s), c.want)
		has(t, c.what+", with state.tmp", f, with(start, saving, "x"))
		gives(t, c.what+", with state.tmp, recovered", recovered(s), c.want)
		has(t, c.what+", with state.tmp, recovered", f, start)
		well(t, s.Save(plain(1, 1)))
		gives(t, c.what+", saved over", load(s), this(plain(1, 1)))
	}
}

// P22.1: a system that is down: ErrDown, whatever there is.
func TestLoadWhileDown(t *testing.T) {
	all := append(starts(t), map[string]string{kept: damaged(t)[0].b}, map[string]string{kept: elders()[0].b, saving: "x"})
	for i, start := range all {
		what := fmt.Sprint("start ", i)
		f := downed(t, start)
		s, steps := store.New(f), f.Steps()
		for range 3 {
			gives(t, what, load(s), wrong(api.ErrDown))
		}
		counts(t, what, f, steps, 0, true)
		f.Crash(0)
		has(t, what, f, start)
	}
}

// P22.1: Load is no step: a system that was armed with none more isn't down by it.
func TestLoadIsNoStep(t *testing.T) {
	for i, start := range starts(t) {
		what := fmt.Sprint("start ", i)
		f := system(t, start)
		s, want, steps := store.New(f), load(store.New(f)), f.Steps()
		f.Arm(0)
		for range 3 {
			gives(t, what, load(s), want)
		}
		counts(t, what, f, steps, 0, false)
		has(t, what, f, start)
	}
}

// P22.1: what is kept now counts, be it safe or not.
func TestLoadOfNow(t *testing.T) {
	f := simfs.New()
	s := store.New(f)
	well(t, s.Save(plain(1, 1)), f.Write(kept, checkpoint(t, plain(2, 2))))
	gives(t, "written, not safe", load(s), this(plain(2, 2)))
	gives(t, "written, not safe", recovered(s), this(plain(2, 2)))
	f.Crash(0)
	gives(t, "behind a crash", recovered(s), this(plain(1, 1)))
	well(t, f.Remove(kept))
	gives(t, "removed, not safe", recovered(s), none())
	f.Crash(0)
	gives(t, "behind a crash", load(s), this(plain(1, 1)))
	well(t, f.Rename(kept, "other"), f.SyncDir())
	f.Crash(0)
	gives(t, "under another name", load(s), none())
}

// spans are where the items of all lists in a thing lie, from each one's first byte to behind its last.
func spans(v reflect.Value) [][2]uintptr {
	var l [][2]uintptr
	switch v.Kind() {
	case reflect.Struct:
		for i := range v.NumField() {
			l = append(l, spans(v.Field(i))...)
		}
	case reflect.Slice:
		if v.Cap() > 0 {
			l = append(l, [2]uintptr{v.Pointer(), v.Pointer() + uintptr(v.Cap())*v.Type().Elem().Size()})
		}
		for i := range v.Len() {
			l = append(l, spans(v.Index(i))...)
		}
	}
	return l
}

// R3: what is saved isn't kept: so nothing that is loaded later shares memory with it.
func TestLoadedApart(t *testing.T) {
	x := plain(5, 3)
	s := store.New(simfs.New())
	well(t, s.Save(x))
	for _, a := range []answer{load(s), recovered(s), load(s)} {
		gives(t, "loaded", a, this(x))
		for _, p := range spans(reflect.ValueOf(x)) {
			for _, q := range spans(reflect.ValueOf(a.x)) {
				if p[0] < q[1] && q[0] < p[1] {
					t.Fatal("what is loaded shares memory with what was saved")
				}
			}
		}
	}
}
