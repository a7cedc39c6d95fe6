// Package crc is layer 1: see shared/doc/01-crc.md.
package crc

import (
	"sync"
)

// polynomial is that of IEEE 802.3, its lowest bit standing highest, as the bits of a byte are taken lowest first.
const polynomial = 0xEDB88320

// Each number of table is what the eight bits of a byte make of a number that is that byte alone.
// It is laid when the first sum is asked for, and never changed behind that. Both stand as variables, for the chapter
// asks that the table by which bytes go is laid once; no sum hangs on which call laid it.
var (
	table [256]uint32
	laid  sync.Once
)

// More is the sum of a text and more behind it.
func More(sum uint32, s string) uint32 {
	laid.Do(layTable)
	// A sum is told with all its bits turned, so they are turned back to go on.
	n := ^sum
	for i := range len(s) {
		n = n>>8 ^ table[byte(n)^s[i]]
	}
	return ^n
}

// Sum is the sum of a text.
func Sum(s string) uint32 {
	// The sum of the empty text is 0: all bits 1, and then turned.
	return More(0, s)
}

func layTable() {
	for b := range len(table) {
		table[b] = eightBits(uint32(b))
	}
}

func eightBits(n uint32) uint32 {
	for range 8 {
		n = oneBit(n)
	}
	return n
}

func oneBit(n uint32) uint32 {
	if n&1 == 1 {
		return n>>1 ^ polynomial
	}
	return n >> 1
}
