package ckpt_test

import (
	"encoding/binary"
	"fmt"
	"strings"
	"testing"

	"bosun/api"
	"bosun/ckone"
	"bosun/ckthree"
	"bosun/cktwo"
	"bosun/frame"
)

// number is a number's bytes, text a text's, whatever their lengths.
func number(n int, v uint64) string {
	b := binary.BigEndian.AppendUint64(nil, v)
	return string(b[8-n:])
}

func text(s string) string { return number(2, uint64(len(s))) + s }

// rawOne, rawTwo and rawThree are a state's bytes by the words of its layer, whether it may be or not.
func rawOne(s ckone.State) string {
	var b strings.Builder
	b.WriteString(number(4, uint64(s.Seq)) + number(2, uint64(len(s.Pods))))
	for _, p := range s.Pods {
		b.WriteString(text(p.File) + text(p.Name) + text(p.Image) + number(1, uint64(p.Restart)))
	}
	return b.String()
}

func rawTwo(s cktwo.State) string {
	var b strings.Builder
	b.WriteString(number(8, s.Seq) + number(2, uint64(len(s.Pods))))
	for _, p := range s.Pods {
		b.WriteString(text(p.File) + text(p.Name) + text(p.Namespace) + number(1, uint64(p.Restart)) + number(2, uint64(p.Grace)))
		b.WriteString(number(1, uint64(len(p.Containers))))
		for _, c := range p.Containers {
			b.WriteString(text(c.Name) + text(c.Image))
		}
	}
	return b.String()
}

func rawThree(s ckthree.State) string {
	var b strings.Builder
	b.WriteString(number(8, s.Seq) + number(2, uint64(len(s.Pods))))
	for _, p := range s.Pods {
		host := "\x00"
		if p.Pod.Host {
			host = "\x01"
		}
		b.WriteString(text(p.File) + text(p.Pod.Name) + text(p.Pod.Namespace))
		b.WriteString(number(1, uint64(p.Pod.Restart)) + number(2, uint64(p.Pod.Grace)) + host + number(1, uint64(len(p.Pod.Containers))))
		for _, c := range p.Pod.Containers {
			b.WriteString(text(c.Name) + text(c.Image) + number(1, uint64(len(c.Command))))
			for _, s := range c.Command {
				b.WriteString(text(s))
			}
			b.WriteString(number(1, uint64(len(c.Ports))))
			for _, p := range c.Ports {
				b.WriteString(number(2, uint64(p.Number)) + number(1, uint64(p.Proto)))
			}
			b.WriteString(number(4, uint64(c.Cpu)) + number(4, uint64(c.Memory)) + number(1, uint64(len(c.Env))))
			for _, v := range c.Env {
				b.WriteString(text(v.Name) + text(v.Value))
			}
		}
	}
	return b.String()
}

// payloads are those of states that may be, by their versions.
func payloads() map[uint8][]string {
	one, two, three := plainOne(), plainTwo(), plainThree()
	one.Pods, two.Pods, three.Pods = one.Pods[:1], two.Pods[:1], three.Pods[:1]
	return map[uint8][]string{
		1: {rawOne(ckone.State{}), rawOne(one), rawOne(plainOne())},
		2: {rawTwo(cktwo.State{}), rawTwo(two), rawTwo(plainTwo())},
		3: {rawThree(ckthree.State{}), rawThree(three), rawThree(plainThree())},
	}
}

// checkpoints are those of these states.
func checkpoints() map[string]string {
	l := map[string]string{}
	for version, of := range payloads() {
		for i, p := range of {
			l[fmt.Sprintf("checkpoint %d of version %d", i, version)] = frameOf(version, p)
		}
	}
	return l
}

// decodeError is what Decode of a version's layer says of a payload.
func decodeError(version uint8, payload string) api.Errno {
	var e api.Errno
	switch version {
	case 1:
		_, e = ckone.Decode(payload)
	case 2:
		_, e = cktwo.Decode(payload)
	case 3:
		_, e = ckthree.Decode(payload)
	}
	return e
}

// P21.1: bytes that are no frame have layer 3's error.
func TestNoFrames(t *testing.T) {
	for b, e := range map[string]api.Errno{
		"": api.ErrShort, "P": api.ErrShort, "PODC": api.ErrShort, "PODC\x03": api.ErrShort, "PODC\x03\x00\x00\x00": api.ErrShort, "PODC\x03\x00\x00\x00\x00": api.ErrShort,
		"p": api.ErrMagic, "Q": api.ErrMagic, "PODD": api.ErrMagic, "podc": api.ErrMagic, "\x00": api.ErrMagic, "PO C\x03\x00\x00\x00\x00": api.ErrMagic,
		" PODC\x03\x00\x00\x00\x00\x81\x82\x8d\xcd": api.ErrMagic, "a state": api.ErrMagic, strings.Repeat("\x00", 100): api.ErrMagic, "\xff\xfe": api.ErrMagic,
		"PODC\x03\x00\x40\x00\x01": api.ErrLong, "PODC\x00\xff\xff\xff\xff": api.ErrLong, "PODC\x03\x00\x40\x00\x00": api.ErrShort,
		"PODC\x03\x00\x00\x00\x00\x00\x00\x00\x00": api.ErrSum, "PODC\x03\x00\x00\x00\x00\x81\x82\x8d\xcd\x00": api.ErrForm,
	} {
		refused(t, "no frame", b, e)
		if _, _, err := frame.Open(b); err != e {
			t.Errorf("of %q Open answers %v, not %v", b, err, e)
		}
	}
	for what, b := range checkpoints() {
		payload := b[9 : len(b)-4]
		refused(t, what+", the payload alone", payload, api.ErrMagic)
		refused(t, what+", without its first byte", b[1:], api.ErrMagic)
		refused(t, what+", behind a byte", "\x00"+b, api.ErrMagic)
	}
}

// P21.1: frames with something behind them.
func TestMoreBehind(t *testing.T) {
	for what, b := range checkpoints() {
		for _, more := range []string{"\x00", "\xff", "\n", "PODC", "\x00\x00\x00\x00", b, strings.Repeat("x", 5000)} {
			refused(t, what+", with more behind", b+more, api.ErrForm)
		}
	}
}

// P21.1: frames of each version but 1, 2 and 3, whatever their payload is.
func TestOtherVersions(t *testing.T) {
	all := []string{"", "\x00", "payload", strings.Repeat("\xff", 70)}
	for _, of := range payloads() {
		all = append(all, of...)
	}
	for n := range 256 {
		if 1 <= n && n <= 3 {
			continue
		}
		for _, p := range all {
			refused(t, fmt.Sprint("version ", n), frameOf(uint8(n), p), api.ErrVersion)
		}
	}
}

// P21.1: of a checkpoint only the version says what its payload is: one of another version has Decode's error, or, where it
// is one of both, says what it says there.
func TestPayloadsOfOthers(t *testing.T) {
	for from, of := range payloads() {
		for to := uint8(1); to <= 3; to++ {
			for i, p := range of {
				if from != to && !(i == 0 && from != 1 && to != 1) {
					e := decodeError(to, p)
					if e == api.OK {
						t.Fatalf("payload %d of version %d may be one of version %d", i, from, to)
					}
					refused(t, fmt.Sprintf("payload %d of version %d in a frame of version %d", i, from, to), frameOf(to, p), e)
				}
			}
		}
	}
	none := number(8, 7) + "\x00\x00"
	loaded(t, "no pods of version 2", frameOf(2, none), ckthree.State{Seq: 7}, 2, api.OK)
	loaded(t, "no pods of version 3", frameOf(3, none), ckthree.State{Seq: 7}, 3, api.OK)
	refused(t, "no pods of version 2 in a frame of version 1", frameOf(1, none), api.ErrForm)
	refused(t, "no pods of version 1 in a frame of version 2", frameOf(2, none[4:]), api.ErrShort)
	refused(t, "no pods of version 1 in a frame of version 3", frameOf(3, none[4:]), api.ErrShort)
}

// P21.1: payloads that are empty, cut off, or have something behind them, in frames that are well.
func TestPayloadsCutOff(t *testing.T) {
	for version, of := range payloads() {
		for i, p := range of {
			what := fmt.Sprintf("payload %d of version %d", i, version)
			for n := range len(p) {
				refused(t, fmt.Sprint(what, " of ", n, " bytes"), frameOf(version, p[:n]), api.ErrShort)
			}
			for _, more := range []string{"\x00", "\xff", "more", p} {
				refused(t, what+", with more behind", frameOf(version, p+more), api.ErrForm)
			}
		}
		refused(t, "no payload", frameOf(version, ""), api.ErrShort)
		refused(t, "a payload of a byte", frameOf(version, "\x00"), api.ErrShort)
	}
}

// P21.1: payloads of which one byte is another one, in frames that are well: Decode's error, or what Decode says.
func TestPayloadsChanged(t *testing.T) {
	seen := map[api.Errno]int{}
	for version, of := range payloads() {
		for _, p := range of {
			for i := range p {
				for _, c := range []byte{0, 1, 3, 16, 17, 'A', 'c', 'd', 'z', 0x80, 0xff} {
					holdPayload(t, seen, version, p[:i]+string([]byte{c})+p[i+1:])
				}
			}
		}
	}
	for _, e := range []api.Errno{api.OK, api.ErrShort, api.ErrLong, api.ErrForm, api.ErrRange, api.ErrTwice, api.ErrText, api.ErrName, api.ErrFull} {
		if seen[e] == 0 {
			t.Errorf("no payload had %v", e)
		}
	}
}

// holdPayload holds what is loaded of a frame of a payload.
func holdPayload(t *testing.T, seen map[api.Errno]int, version uint8, payload string) {
	t.Helper()
	b := frameOf(version, payload)
	s, v, e := loadOf(b)
	if e != decodeError(version, payload) {
		t.Fatalf("of %q of version %d the model says %v", payload, version, e)
	}
	seen[e]++
	loaded(t, "a payload that was changed", b, s, v, e)
}

// P21.1: of two things that are wrong the first one is told: first what is wrong with the frame, as layer 3 says it, then the
// version, then what is wrong with the payload.
func TestErrorsTogether(t *testing.T) {
	bad := "\x00\x00"
	turn := func(b string) string { return b[:len(b)-1] + string([]byte{b[len(b)-1] ^ 1}) }
	long := strings.Repeat("x", mostPayload+1)
	for _, version := range []uint8{0, 1, 2, 3, 4, 5, 127, 128, 255} {
		b := frameOf(version, bad)
		of := api.ErrShort
		if version < 1 || version > 3 {
			of = api.ErrVersion
		}
		what := fmt.Sprintf("version %d, a payload that is none", version)
		refused(t, what, b, of)
		refused(t, what+", another sum", turn(b), api.ErrSum)
		refused(t, what+", more behind", turn(b)+"x", api.ErrForm)
		refused(t, what+", more behind a sum that is right", b+"x", api.ErrForm)
		refused(t, what+", cut off", turn(b)[:len(b)-1], api.ErrShort)
		refused(t, what+", a length that is too great", plainFrame(version, mostPayload+1, bad), api.ErrLong)
		refused(t, what+", too long", plainFrame(version, mostPayload+1, long), api.ErrLong)
		refused(t, what+", another beginning", "Q"+b[1:], api.ErrMagic)
		refused(t, what+", another beginning, and sum, and more", "Q"+turn(b)[1:]+"x", api.ErrMagic)
		refused(t, what+", another beginning, cut off", "PODX"+b[4:7], api.ErrMagic)
		refused(t, what+", a length that is too small", plainFrame(version, 1, bad), api.ErrForm)
		refused(t, what+", a length that is greater", plainFrame(version, 3, bad), api.ErrShort)
	}
	one, two, three := plainOne(), plainTwo(), plainThree()
	one.Pods[2].Restart, two.Pods[2].Grace, three.Pods[2].Pod.Grace = 9, 0, 0
	for version, p := range map[uint8]string{1: rawOne(one), 2: rawTwo(two), 3: rawThree(three)} {
		refused(t, "a range", frameOf(version, p), api.ErrRange)
		refused(t, "a range, and more behind", frameOf(version, p+"x"), api.ErrForm)
		refused(t, "a range, and another sum", turn(frameOf(version, p)), api.ErrSum)
		refused(t, "a range, in a frame of version 4", frameOf(4, p), api.ErrVersion)
	}
}
