// Package octet is layer 1, binary encodings: numbers, byte strings and checksums as bytes. See shared/doc/01-octet.md.
package octet

import (
	"hallmark/api"
)

// mostGroups is how many groups of 7 bits 64 bits take; the last group has one bit.
const mostGroups = 10

const digits = "0123456789abcdef"

// Rot is x rotated right by n bits; a negative n rotates left.
func Rot(x uint32, n int) uint32 {
	// In two's complement the lowest five bits are the remainder from 0 to 31, whatever the sign.
	k := uint32(n & 31)
	return x>>k | x<<(32-k)
}

// Put is the lowest size bytes of n, the most significant first.
func Put(n uint64, size int) []byte {
	if size < 0 || size > 8 {
		return nil
	}
	b := make([]byte, size)
	for i := range size {
		b[size-1-i] = byte(n >> (8 * i))
	}
	return b
}

// Get is the number whose big-endian bytes are b, which may be 8 at most.
func Get(b []byte) (uint64, bool) {
	if len(b) > 8 {
		return 0, false
	}
	n := uint64(0)
	for _, c := range b {
		n = n<<8 | uint64(c)
	}
	return n, true
}

// Word is the number whose big-endian bytes are the four of b from at on.
func Word(b []byte, at int) (uint32, bool) {
	if at < 0 || at > len(b)-4 {
		return 0, false
	}
	return uint32(b[at])<<24 | uint32(b[at+1])<<16 | uint32(b[at+2])<<8 | uint32(b[at+3]), true
}

// Count is n in groups of 7 bits, the least significant first, in as few bytes as possible.
func Count(n uint64) []byte {
	var b []byte
	for n >= 0x80 {
		b = append(b, byte(n)|0x80)
		n >>= 7
	}
	return append(b, byte(n))
}

// ReadCount is the number whose Count b begins with, and that Count's length.
func ReadCount(b []byte) (uint64, int, api.Errno) {
	n := uint64(0)
	for i, c := range b {
		tooGreat := i == mostGroups-1 && c > 1
		needless := i > 0 && c == 0
		if tooGreat || needless {
			return 0, 0, api.ErrForm
		}
		// A tenth byte that is accepted is the last, so that no shift goes beyond 64 bits.
		n |= uint64(c&0x7f) << (7 * i)
		if c < 0x80 {
			return n, i + 1, api.OK
		}
	}
	return 0, 0, api.ErrShort
}

// Text is p with the Count of its length ahead.
func Text(p []byte) []byte {
	return append(Count(uint64(len(p))), p...)
}

// ReadText is the bytes, at most so many, whose Text b begins with, and that Text's length.
func ReadText(b []byte, most int) ([]byte, int, api.Errno) {
	n, used, e := ReadCount(b)
	if e != api.OK {
		return nil, 0, e
	}
	if most < 0 || n > uint64(most) {
		return nil, 0, api.ErrLimit
	}
	// The lengths are held against each other as they are: used and n may overflow as a sum.
	if n > uint64(len(b)-used) {
		return nil, 0, api.ErrShort
	}
	end := used + int(n)
	return append([]byte(nil), b[used:end]...), end, api.OK
}

// Hex is two digits for each byte, the higher first.
func Hex(b []byte) string {
	t := make([]byte, 0, 2*len(b))
	for _, c := range b {
		t = append(t, digits[c>>4], digits[c&15])
	}
	return string(t)
}

// Unhex is the bytes whose Hex is s.
func Unhex(s string) ([]byte, api.Errno) {
	if len(s)%2 != 0 {
		return nil, api.ErrForm
	}
	b := make([]byte, len(s)/2)
	for i := range b {
		high, ok := digit(s[2*i])
		low, too := digit(s[2*i+1])
		if !ok || !too {
			return nil, api.ErrForm
		}
		b[i] = high<<4 | low
	}
	return b, api.OK
}

// digit is what a hexadecimal digit stands for; Hex writes no capitals, so they are none.
func digit(c byte) (byte, bool) {
	switch {
	case c >= '0' && c <= '9':
		return c - '0', true
	case c >= 'a' && c <= 'f':
		return c - 'a' + 10, true
	}
	return 0, false
}

// Crc is the CRC-32 checksum of p.
func Crc(p []byte) uint32 {
	c := ^uint32(0)
	for _, b := range p {
		c ^= uint32(b)
		for range 8 {
			// The bit that is shifted out, as all ones or none, chooses the polynomial without a branch.
			c = c>>1 ^ 0xedb88320&-(c&1)
		}
	}
	return ^c
}
