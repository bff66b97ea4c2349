// Package digest is layer 2, SHA-256 with a serializable state, and the textual form of digests. See shared/doc/02-digest.md.
package digest

import (
	"bytes"

	"hallmark/api"
	"hallmark/octet"
)

const (
	blockSize = 64
	// headSize is how many bytes of a saved state precede the ones that wait for a complete block.
	headSize = 8*4 + 8
	// mostBytes is the greatest number of bytes whose number of bits has 64 bits.
	mostBytes = 1<<61 - 1
	// prefix names the algorithm in the textual form.
	prefix = "sha256:"
)

// words are h_0 to h_7.
type words [8]uint32

// block is what is mixed in at a time.
type block [blockSize]byte

// fractions are k_0 to k_63: the first 32 bits of the fractional parts of the cube roots of the first 64 primes.
var fractions = [64]uint32{
	0x428a2f98, 0x71374491, 0xb5c0fbcf, 0xe9b5dba5, 0x3956c25b, 0x59f111f1, 0x923f82a4, 0xab1c5ed5,
	0xd807aa98, 0x12835b01, 0x243185be, 0x550c7dc3, 0x72be5d74, 0x80deb1fe, 0x9bdc06a7, 0xc19bf174,
	0xe49b69c1, 0xefbe4786, 0x0fc19dc6, 0x240ca1cc, 0x2de92c6f, 0x4a7484aa, 0x5cb0a9dc, 0x76f988da,
	0x983e5152, 0xa831c66d, 0xb00327c8, 0xbf597fc7, 0xc6e00bf3, 0xd5a79147, 0x06ca6351, 0x14292967,
	0x27b70a85, 0x2e1b2138, 0x4d2c6dfc, 0x53380d13, 0x650a7354, 0x766a0abb, 0x81c2c92e, 0x92722c85,
	0xa2bfe8a1, 0xa81a664b, 0xc24b8b70, 0xc76c51a3, 0xd192e819, 0xd6990624, 0xf40e3585, 0x106aa070,
	0x19a4c116, 0x1e376c08, 0x2748774c, 0x34b0bcb5, 0x391c0cb3, 0x4ed8aa4a, 0x5b9cca4f, 0x682e6ff3,
	0x748f82ee, 0x78a5636f, 0x84c87814, 0x8cc70208, 0x90befffa, 0xa4506ceb, 0xbef9a3f7, 0xc67178f2,
}

// State is a digest under way: the words after the last complete block, and the bytes that wait for a complete one.
type State struct {
	words words
	tail  block
	size  int
}

// New is a state into which no bytes have been written.
func New() *State {
	// The first 32 bits of the fractional parts of the square roots of the first eight primes.
	return &State{words: words{
		0x6a09e667, 0xbb67ae85, 0x3c6ef372, 0xa54ff53a, 0x510e527f, 0x9b05688c, 0x1f83d9ab, 0x5be0cd19,
	}}
}

// Load is the state whose Save is b.
func Load(b []byte) (*State, api.Errno) {
	if len(b) < headSize {
		return nil, api.ErrShort
	}
	n, _ := octet.Get(b[headSize-8 : headSize])
	if n > mostBytes || uint64(len(b)-headSize) != n%blockSize {
		return nil, api.ErrForm
	}
	s := &State{size: int(n)}
	for i := range s.words {
		s.words[i], _ = octet.Word(b, 4*i)
	}
	copy(s.tail[:], b[headSize:])
	return s, api.OK
}

// Write appends p to the bytes written so far.
func (s *State) Write(p []byte) api.Errno {
	if s == nil {
		return api.ErrNil
	}
	if len(p) > mostBytes-s.size {
		return api.ErrLimit
	}
	for len(p) > 0 {
		n := copy(s.tail[s.waiting():], p)
		p = p[n:]
		s.size += n
		if s.waiting() == 0 {
			s.words = mix(s.words, s.tail)
		}
	}
	return api.OK
}

// waiting is how many of the written bytes follow the last complete block.
func (s *State) waiting() int { return s.size & (blockSize - 1) }

// Size is the number of bytes written.
func (s *State) Size() int {
	if s == nil {
		return 0
	}
	return s.size
}

// Sum is the digest of the bytes written so far; more can be written afterwards.
func (s *State) Sum() api.Digest {
	if s == nil {
		return api.Digest{}
	}
	var last block
	n := copy(last[:], s.tail[:s.waiting()])
	last[n] = 128
	h := s.words
	if n >= blockSize-8 {
		// The number of bits doesn't fit behind the byte 128.
		h = mix(h, last)
		last = block{}
	}
	copy(last[blockSize-8:], octet.Put(8*uint64(s.size), 8))
	h = mix(h, last)
	var d api.Digest
	copy(d[:], spread(h))
	return d
}

// Save is the state as bytes.
func (s *State) Save() []byte {
	if s == nil {
		return nil
	}
	b := append(spread(s.words), octet.Put(uint64(s.size), 8)...)
	return append(b, s.tail[:s.waiting()]...)
}

// spread is the words' bytes.
func spread(h words) []byte {
	b := make([]byte, 0, 4*len(h))
	for _, x := range h {
		b = append(b, octet.Put(uint64(x), 4)...)
	}
	return b
}

// mix is the words after one more block.
func mix(v words, next block) words {
	w := schedule(next)
	a, b, c, d, e, f, g, h := v[0], v[1], v[2], v[3], v[4], v[5], v[6], v[7]
	for i := range w {
		x := h + (octet.Rot(e, 6) ^ octet.Rot(e, 11) ^ octet.Rot(e, 25)) + (e&f ^ ^e&g) + fractions[i] + w[i]
		y := (octet.Rot(a, 2) ^ octet.Rot(a, 13) ^ octet.Rot(a, 22)) + (a&b ^ a&c ^ b&c)
		a, b, c, d, e, f, g, h = x+y, a, b, c, d+x, e, f, g
	}
	return words{v[0] + a, v[1] + b, v[2] + c, v[3] + d, v[4] + e, v[5] + f, v[6] + g, v[7] + h}
}

// schedule is w_0 to w_63 of a block.
func schedule(b block) [64]uint32 {
	var w [64]uint32
	for i := range 16 {
		w[i], _ = octet.Word(b[:], 4*i)
	}
	for i := 16; i < len(w); i++ {
		x, y := w[i-15], w[i-2]
		s := octet.Rot(x, 7) ^ octet.Rot(x, 18) ^ x>>3
		t := octet.Rot(y, 17) ^ octet.Rot(y, 19) ^ y>>10
		w[i] = w[i-16] + s + w[i-7] + t
	}
	return w
}

// Sum is the digest of p.
func Sum(p []byte) api.Digest {
	s := New()
	s.Write(p)
	return s.Sum()
}

// Text is the textual form of a digest.
func Text(d api.Digest) string { return prefix + octet.Hex(d[:]) }

// Parse is the digest whose Text is t.
func Parse(t string) (api.Digest, api.Errno) {
	var d api.Digest
	if len(t) != len(prefix)+2*len(d) || t[:len(prefix)] != prefix {
		return api.Digest{}, api.ErrForm
	}
	b, e := octet.Unhex(t[len(prefix):])
	if e != api.OK {
		return api.Digest{}, api.ErrForm
	}
	copy(d[:], b)
	return d, api.OK
}

// Compare is -1, 0 or 1 as a is less than, equal to, or greater than b, by the first byte in which they differ.
func Compare(a, b api.Digest) int { return bytes.Compare(a[:], b[:]) }
