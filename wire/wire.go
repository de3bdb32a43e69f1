// Package wire is numbers, texts, floats as bytes; a check sum: see DOC.md, chapter 1.
package wire

import (
	"slices"

	"endonym/api"
)

const (
	groupBits  = 7
	more       = 1 << groupBits // set in each byte of a number but the last
	maxGroups  = 9              // 63 bits: every int from 0 on
	floatBytes = 8
	polynomial = 0x82F63B78 // CRC-32C's, its lowest power in the highest bit
)

// Uint is a number's bytes.
func Uint(n int) []byte {
	if n < 0 {
		return nil
	}
	b := make([]byte, 0, maxGroups)
	for ; n >= more; n >>= groupBits {
		b = append(b, byte(n)|more)
	}
	return append(b, byte(n))
}

// ReadUint reads a number.
func ReadUint(b []byte, at int) (n, next int, e api.Errno) {
	left, e := from(b, at)
	if e != api.OK {
		return 0, 0, e
	}
	groups, e := numeral(left)
	if e != api.OK {
		return 0, 0, e
	}
	return value(groups), at + len(groups), api.OK
}

// Text is a text's bytes, how many ahead.
func Text(s string) []byte {
	return append(Uint(len(s)), s...)
}

// ReadText reads a text of at most so many bytes.
func ReadText(b []byte, at, most int) (s string, next int, e api.Errno) {
	// A wrong place has the same error, so it needs no look of its own ahead of this one.
	if most < 0 {
		return "", 0, api.ErrArg
	}
	size, behind, e := ReadUint(b, at)
	if e != api.OK {
		return "", 0, e
	}
	if size > most {
		return "", 0, api.ErrMany
	}
	text, e := piece(b, behind, size)
	if e != api.OK {
		return "", 0, e
	}
	return string(text), behind + size, api.OK
}

// Float is a float's bytes.
func Float(a float64) []byte {
	b := make([]byte, floatBytes)
	u := api.Bits(a)
	for i := range b {
		b[i] = byte(u >> (8 * i))
	}
	return b
}

// ReadFloat reads a float.
func ReadFloat(b []byte, at int) (a float64, next int, e api.Errno) {
	left, e := from(b, at)
	if e != api.OK {
		return 0, 0, e
	}
	eight, e := piece(left, 0, floatBytes)
	if e != api.OK {
		return 0, 0, e
	}
	u := uint64(0)
	for i, c := range eight {
		u |= uint64(c) << (8 * i)
	}
	return api.Float(u), at + floatBytes, api.OK
}

// Sum is the check sum.
func Sum(parts ...[]byte) uint32 {
	register := ^uint32(0)
	for _, part := range parts {
		for _, c := range part {
			register = shifted(register ^ uint32(c))
		}
	}
	return ^register
}

// Joined is the parts, one behind the other.
func Joined(parts ...[]byte) []byte {
	return slices.Concat(parts...)
}

// from is the bytes of b from a place on.
func from(b []byte, at int) ([]byte, api.Errno) {
	if at < 0 || at > len(b) {
		return nil, api.ErrArg
	}
	// Without the third index b's spare room would be within reach.
	return b[at:len(b):len(b)], api.OK
}

// piece is so many bytes of b at a place within it.
func piece(b []byte, at, size int) ([]byte, api.Errno) {
	// Not at+size > len(b): a size that was read may be the greatest int.
	if size > len(b)-at {
		return nil, api.ErrShort
	}
	return b[at : at+size : at+size], api.OK
}

// numeral is the bytes with which b begins that are one number.
func numeral(b []byte) ([]byte, api.Errno) {
	for i, c := range b {
		if c >= more {
			if i+1 == maxGroups {
				return nil, api.ErrWide
			}
			continue
		}
		// A highest group of 0 would let one number be written in several ways.
		if c == 0 && i > 0 {
			return nil, api.ErrForm
		}
		return piece(b, 0, i+1)
	}
	return nil, api.ErrShort
}

// value is the number of a numeral's groups.
func value(groups []byte) int {
	n := 0
	for i, c := range groups {
		n |= int(c&^more) << (groupBits * i)
	}
	return n
}

// shifted is the register eight bits on.
func shifted(register uint32) uint32 {
	for range 8 {
		// A mask, not a branch: which way the bit falls can't be foreseen, and a branch takes three times as long.
		register = register>>1 ^ polynomial&-(register&1)
	}
	return register
}
