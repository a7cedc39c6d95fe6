// Package pack is layer 2: see shared/doc/02-pack.md.
package pack

import (
	"strings"

	"bosun/api"
)

// How many bytes each kind of thing has; of a text, its length ahead of it.
const (
	flagBytes   = 1
	lengthBytes = 2
	intBytes    = 8
)

// Put is a number's bytes.
func Put(n int, v uint64) string {
	if !mayHave(n) {
		return ""
	}
	b := make([]byte, n)
	for i := range n {
		b[n-1-i] = byte(v >> (8 * i))
	}
	return string(b)
}

// Int is a whole number's bytes.
func Int(v int64) string { return Put(intBytes, uint64(v)) }

// Flag is a yes' or no's byte.
func Flag(b bool) string {
	if b {
		return Put(flagBytes, 1)
	}
	return Put(flagBytes, 0)
}

// Text is a text's bytes.
func Text(s string) (string, api.Errno) {
	if len(s) > api.MaxText {
		return "", api.ErrLong
	}
	return Put(lengthBytes, uint64(len(s))) + s, api.OK
}

// Taker takes bytes from the left.
type Taker struct {
	Rest string
	Err  api.Errno
}

// Take takes a number.
func (t *Taker) Take(n int) uint64 {
	switch {
	case t.Err != api.OK:
		return 0
	case !mayHave(n):
		t.Err = api.ErrRange
		return 0
	case len(t.Rest) < n:
		t.Err = api.ErrShort
		return 0
	}
	v := uint64(0)
	for i := range n {
		v = v<<8 | uint64(t.Rest[i])
	}
	t.Rest = t.Rest[n:]
	return v
}

// Int takes a whole number.
func (t *Taker) Int() int64 { return int64(t.Take(intBytes)) }

// Flag takes a yes or no.
func (t *Taker) Flag() bool {
	before := t.Rest
	v := t.Take(flagBytes)
	if v > 1 {
		t.Rest, t.Err = before, api.ErrForm
		return false
	}
	return v == 1
}

// Text takes a text.
func (t *Taker) Text() string {
	before := t.Rest
	n := int(t.Take(lengthBytes))
	switch {
	case t.Err != api.OK:
		return ""
	case n > api.MaxText:
		t.Rest, t.Err = before, api.ErrLong
		return ""
	case n > len(t.Rest):
		t.Rest, t.Err = before, api.ErrShort
		return ""
	}
	// A copy, for a short text would hold all the bytes it was taken from.
	s := strings.Clone(t.Rest[:n])
	t.Rest = t.Rest[n:]
	return s
}

// End is the error, or whether something is left.
func (t *Taker) End() api.Errno {
	if t.Err == api.OK && t.Rest != "" {
		return api.ErrForm
	}
	return t.Err
}

// mayHave says whether a number may have n bytes.
func mayHave(n int) bool {
	switch n {
	case 1:
		fallthrough
	case 2:
		fallthrough
	case 4:
		fallthrough
	case 8:
		return true
	}
	return false
}
