// Package num is layer 1: numbers as bytes, and bytes with their check sum. See shared/doc/01-num.md.
package num

import (
	"assart/api"
)

const (
	widest = 4                  // bytes of the widest number
	room   = api.Block - widest // bytes of a sealed block ahead of its check sum
	poly   = 0xedb88320         // what an odd bit of the check sum is mixed with
	ones   = 1<<32 - 1
)

// Put is a number's bytes, the lowest first; none, if n is no number of w bytes.
func Put(n, w int) []byte {
	// What is left of n is asked last: a shift by an unsound w would panic.
	if !isWidth(w) || n < 0 || n>>(8*w) != 0 {
		return nil
	}
	b := make([]byte, w)
	for i := range w {
		b[i] = byte(n >> (8 * i))
	}
	return b
}

// Take is the number of w bytes that stands at a place of b, and the place behind.
func Take(b []byte, at, w int) (int, int, api.Errno) {
	// at is held against a difference, not at+w against a length: a great at would go round.
	if !isWidth(w) || at < 0 || at > len(b)-w {
		return 0, 0, api.ErrForm
	}
	n := 0
	for i := range w {
		n |= int(b[at+i]) << (8 * i)
	}
	return n, at + w, api.OK
}

// Sum is the check sum: the CRC-32 of Ethernet.
func Sum(b []byte) int {
	c := uint32(ones)
	for i := range len(b) {
		c = fold(c ^ uint32(b[i]))
	}
	return int(c ^ ones)
}

// Seal is the sealed block of b and as many bytes 0 behind as are missing.
func Seal(b []byte) (string, api.Errno) {
	if len(b) > room {
		return "", api.ErrArg
	}
	full := make([]byte, room, api.Block)
	copy(full, b)
	return string(append(full, Put(Sum(full), widest)...)), api.OK
}

// Open is a sealed block's bytes, without their check sum.
func Open(s string) ([]byte, api.Errno) {
	if len(s) != api.Block {
		return nil, api.ErrForm
	}
	b := []byte(s[:room])
	sum, _, e := Take([]byte(s), room, widest)
	if e != api.OK || sum != Sum(b) {
		return nil, api.ErrForm
	}
	return b, api.OK
}

func isWidth(w int) bool { return w >= 1 && w <= widest }

// fold takes the check sum's eight lowest bits in.
func fold(c uint32) uint32 {
	left := 8
bit:
	odd := c&1 == 1
	c >>= 1
	if odd {
		c ^= poly
	}
	left--
	if left > 0 {
		goto bit
	}
	return c
}
