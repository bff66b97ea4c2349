package chain_test

import (
	"crypto/sha256"
	"encoding/binary"
	"encoding/hex"
	"fmt"
	"math"
	"slices"
	"strconv"
	"testing"

	"hallmark/api"
	"hallmark/chain"
)

const top = 15

type signature = [api.Chains]api.Digest

// The oracle below follows the chapter's definitions with the standard library's SHA-256 and texts, so that it shares no code with the package.

func sum(parts ...[]byte) api.Digest { return sha256.Sum256(slices.Concat(parts...)) }

func four(n uint32) []byte { return binary.BigEndian.AppendUint32(nil, n) }

func secret(seed api.Digest, key uint32, c uint8) api.Digest {
	return sum([]byte{4}, seed[:], four(key), []byte{c})
}

func step(key uint32, c, s uint8, x api.Digest) api.Digest {
	return sum([]byte{2}, four(key), []byte{c, s}, x[:])
}

func climb(key uint32, c uint8, x api.Digest, from, to int) api.Digest {
	for from < to {
		x = step(key, c, uint8(from), x)
		from++
	}
	return x
}

func digits(m api.Digest) [api.Chains]uint8 {
	read := func(s string) (l []uint8) {
		for i := range s {
			n, _ := strconv.ParseUint(s[i:i+1], 16, 8)
			l = append(l, uint8(n))
		}
		return l
	}
	l := read(hex.EncodeToString(m[:]))
	rest := 0
	for _, d := range l {
		rest += 15 - int(d)
	}
	return [api.Chains]uint8(append(l, read(fmt.Sprintf("%03x", rest))...))
}

func joined(ends signature) api.Digest {
	b := []byte{3}
	for _, x := range ends {
		b = append(b, x[:]...)
	}
	return sha256.Sum256(b)
}

func sign(seed api.Digest, key uint32, m api.Digest) (sig signature) {
	for c, d := range digits(m) {
		sig[c] = climb(key, uint8(c), secret(seed, key, uint8(c)), 0, int(d))
	}
	return sig
}

func public(seed api.Digest, key uint32) api.Digest {
	var ends signature
	for c := range ends {
		ends[c] = climb(key, uint8(c), secret(seed, key, uint8(c)), 0, top)
	}
	return joined(ends)
}

func recovered(key uint32, m api.Digest, sig signature) api.Digest {
	for c, d := range digits(m) {
		sig[c] = climb(key, uint8(c), sig[c], int(d), top)
	}
	return joined(sig)
}

// some is a digest, another one for each i.
func some(i int) api.Digest { return sum([]byte(strconv.Itoa(i))) }

// full is a digest of equal bytes.
func full(b byte) api.Digest { return api.Digest(slices.Repeat([]byte{b}, 32)) }

// rising is the digest of the bytes 0 to 31.
func rising() (d api.Digest) {
	for i := range d {
		d[i] = byte(i)
	}
	return d
}

// keyNumbers have a byte of their own at each place, and the least and greatest number among them.
var keyNumbers = []uint32{0, 1, 63, 255, 256, 1 << 16, 0x01020304, 1 << 31, math.MaxUint32}

// digests are digests at the edges of the digits' sum, and ordinary ones.
func digests() []api.Digest {
	l := []api.Digest{full(0), full(255), full(0x0f), full(0xf0), full(0x11), rising()}
	// With i half-bytes of 15 the sum goes through all multiples of 15, so that each of its three digits carries.
	for i := range 65 {
		var d api.Digest
		for j := range i {
			d[j/2] |= 15 << (4 * (j % 2))
		}
		l = append(l, d)
	}
	for i := range 30 {
		l = append(l, some(i))
	}
	return l
}

func TestSecret(t *testing.T) { // P4.1
	for _, seed := range []api.Digest{{}, full(255), rising(), some(1)} {
		for _, key := range keyNumbers {
			for c := range 256 {
				if got := chain.Secret(seed, key, uint8(c)); got != secret(seed, key, uint8(c)) {
					t.Fatalf("Secret of %x, %d, %d = %x", seed, key, c, got)
				}
			}
		}
	}
}

func TestStep(t *testing.T) { // P4.1
	for _, x := range []api.Digest{{}, full(255), rising(), some(1)} {
		for _, key := range keyNumbers {
			for i := range 256 {
				for _, p := range []chain.Place{
					{Key: key, Chain: uint8(i), Step: 7},
					{Key: key, Chain: 66, Step: uint8(i)},
					{Key: key, Chain: uint8(i), Step: uint8(255 - i)},
				} {
					if got := chain.Step(p, x); got != step(key, p.Chain, p.Step, x) {
						t.Fatalf("Step at %v of %x = %x", p, x, got)
					}
				}
			}
		}
	}
}

func TestPlacesDiffer(t *testing.T) { // P4.1
	seen := map[api.Digest]bool{}
	n := 0
	for _, key := range keyNumbers {
		for c := range 67 {
			for s := range 15 {
				seen[chain.Step(chain.Place{Key: key, Chain: uint8(c), Step: uint8(s)}, full(1))] = true
				n++
			}
			seen[chain.Secret(full(1), key, uint8(c))] = true
			n++
		}
	}
	if len(seen) != n {
		t.Errorf("%d digests at %d places", len(seen), n)
	}
}

func TestClimb(t *testing.T) { // P4.1
	for from := range top + 1 {
		for to := from; to <= top; to++ {
			for _, key := range keyNumbers {
				for _, c := range []uint8{0, 1, 66, 67, 255} {
					got, e := chain.Climb(key, c, some(from), from, to)
					if e != api.OK || got != climb(key, c, some(from), from, to) {
						t.Fatalf("Climb on %d of %d from %d to %d = %x, %d", c, key, from, to, got, e)
					}
				}
			}
		}
		if got, e := chain.Climb(5, 6, some(1), from, from); e != api.OK || got != some(1) {
			t.Errorf("Climb from %d to the same height = %x, %d", from, got, e)
		}
	}
}

func TestClimbIsSteps(t *testing.T) { // P4.1
	x := some(3)
	for to := range top + 1 {
		got, e := chain.Climb(9, 8, some(3), 0, to)
		if e != api.OK || got != x {
			t.Errorf("Climb to %d = %x, %d", to, got, e)
		}
		above, e := chain.Climb(9, 8, got, to, top)
		if whole, _ := chain.Climb(9, 8, some(3), 0, top); e != api.OK || above != whole {
			t.Errorf("two climbs by %d don't make a whole one", to)
		}
		x = chain.Step(chain.Place{Key: 9, Chain: 8, Step: uint8(to)}, x)
	}
}

func TestClimbRefuses(t *testing.T) { // P4.1
	heights := []int{math.MinInt, math.MinInt + 5, -1 << 32, -256, -16, -1, 0, 1, 2, 14, 15, 16, 17, 255, 256, 257, 271, 1 << 32, 1<<32 + 3, math.MaxInt}
	for _, from := range heights {
		for _, to := range heights {
			right := from >= 0 && from <= to && to <= top
			got, e := chain.Climb(1, 2, some(1), from, to)
			if right && e != api.OK {
				t.Errorf("Climb from %d to %d: %d", from, to, e)
			}
			if !right && (e != api.ErrArg || got != api.Digest{}) {
				t.Errorf("Climb from %d to %d = %x, %d", from, to, got, e)
			}
		}
	}
}

func TestDigits(t *testing.T) { // P4.2
	for _, m := range digests() {
		if got := chain.Digits(m); got != digits(m) {
			t.Errorf("Digits of %x = %v", m, got)
		}
	}
	var zeros, full15 [api.Chains]uint8
	copy(zeros[64:], []uint8{3, 12, 0})
	copy(full15[:], slices.Repeat([]uint8{15}, 64))
	if got := chain.Digits(full(0)); got != zeros {
		t.Errorf("Digits of bytes 0 = %v", got)
	}
	if got := chain.Digits(full(255)); got != full15 {
		t.Errorf("Digits of bytes 255 = %v", got)
	}
	m := full(0)
	m[0], m[31] = 0x12, 0x9a
	got := chain.Digits(m)
	// 960 - 1 - 2 - 9 - 10 = 938 = 3aa.
	if got[0] != 1 || got[1] != 2 || got[62] != 9 || got[63] != 10 || got[64] != 3 || got[65] != 10 || got[66] != 10 {
		t.Errorf("Digits of %x = %v", m, got)
	}
}

// crosses reports whether some digit is smaller for a than for b, and some is greater.
func crosses(a, b api.Digest) bool {
	var less, more bool
	l, m := chain.Digits(a), chain.Digits(b)
	for i := range l {
		less = less || l[i] < m[i]
		more = more || l[i] > m[i]
	}
	return less && more
}

func TestDigitsCross(t *testing.T) { // P4.2
	for _, a := range digests() {
		for _, b := range digests() {
			if a != b && !crosses(a, b) {
				t.Errorf("the digits of %x and %x lie on one side", a, b)
			}
		}
		// Neighbours: one half-byte changed, to each other value.
		for i := range 64 {
			for by := 1; by < 16; by++ {
				b := a
				b[i/2] ^= byte(by << (4 * (i % 2)))
				if !crosses(a, b) {
					t.Errorf("the digits of %x and %x lie on one side", a, b)
				}
			}
		}
	}
}

func TestPublic(t *testing.T) { // P4.3
	for _, seed := range []api.Digest{{}, full(255), some(1)} {
		for _, key := range keyNumbers {
			if got := chain.Public(seed, key); got != public(seed, key) {
				t.Errorf("Public of %x, %d = %x", seed, key, got)
			}
		}
	}
}

func TestSign(t *testing.T) { // P4.3
	for i, m := range digests() {
		seed, key := some(i%3), keyNumbers[i%len(keyNumbers)]
		if got := chain.Sign(seed, key, m); got != sign(seed, key, m) {
			t.Errorf("Sign of %x by %d is another one", m, key)
		}
	}
}

func TestSignAtTheEdges(t *testing.T) { // P4.3
	low, high := chain.Sign(some(1), 7, full(0)), chain.Sign(some(1), 7, full(255))
	for c := range uint8(64) {
		if low[c] != secret(some(1), 7, c) {
			t.Errorf("a digit 0 of chain %d doesn't reveal its secret", c)
		}
		if high[c] != climb(7, c, low[c], 0, top) {
			t.Errorf("a digit 15 of chain %d doesn't reveal its end", c)
		}
	}
}

func TestRecover(t *testing.T) { // P4.3: of any digests whatever
	for i, m := range digests() {
		key := keyNumbers[i%len(keyNumbers)]
		var sig signature
		for c := range sig {
			sig[c] = some(100*i + c)
		}
		kept := sig
		if got := chain.Recover(key, m, sig); got != recovered(key, m, sig) {
			t.Errorf("Recover for %x = %x", m, got)
		}
		if sig != kept {
			t.Error("Recover changes the signature that was passed")
		}
		if got := chain.Recover(key, m, signature{}); got != recovered(key, m, signature{}) {
			t.Errorf("Recover for %x of zeros = %x", m, got)
		}
	}
}

func TestKnownDigests(t *testing.T) { // P4.1, P4.3: computed by another program after the chapter
	seed, key, m := rising(), uint32(0x01020304), api.Digest(sha256.Sum256([]byte("abc")))
	up, _ := chain.Climb(key, 66, seed, 3, 15)
	b := []byte{}
	for _, x := range chain.Sign(seed, key, m) {
		b = append(b, x[:]...)
	}
	for _, c := range []struct {
		what string
		got  api.Digest
		want string
	}{
		{"Secret", chain.Secret(seed, key, 66), "215d57c254fbcdc1593eb3df631f6f621fbe712edddc52dcc7ec116db0d3a6f9"},
		{"Step", chain.Step(chain.Place{Key: key, Chain: 66, Step: 14}, seed), "47f2f4b0e769a209d23dacc5cb91d08302029d4dafec77f1db39c2c6a4f2c5a1"},
		{"Climb", up, "c787ca1169b4b2ab0e4f64772cc2443de20d513937634275f11f6dac887a0a3e"},
		{"Public", chain.Public(seed, key), "45ada4d277a1b6b58ed3c8ba0a284aeb334893a22463353087921de6a9b1d03f"},
		{"Sign", sha256.Sum256(b), "a88880428a58cc20f3025e7d47868d8116a94fe5ddd59fd8ee8811ccbd941696"},
	} {
		if got := hex.EncodeToString(c.got[:]); got != c.want {
			t.Errorf("%s = %s, not %s", c.what, got, c.want)
		}
	}
}

func TestRecoverOfASignature(t *testing.T) { // P4.4
	for i, m := range digests() {
		seed, key := some(i%5), keyNumbers[i%len(keyNumbers)]
		if chain.Recover(key, m, chain.Sign(seed, key, m)) != chain.Public(seed, key) {
			t.Errorf("Recover of the signature of %x by %d isn't the public digest", m, key)
		}
	}
}

func TestRecoverOfSomethingElse(t *testing.T) { // P4.4
	for i, m := range []api.Digest{full(0), full(255), some(1), some(2)} {
		seed, key := some(i), uint32(i)
		sig, pub := chain.Sign(seed, key, m), chain.Public(seed, key)
		for c := range sig {
			bad := sig
			bad[c][c%32] ^= 1 << (c % 8)
			if chain.Recover(key, m, bad) == pub {
				t.Errorf("a changed digest of chain %d isn't noticed", c)
			}
		}
		for _, other := range digests() {
			if other != m && chain.Recover(key, other, sig) == pub {
				t.Errorf("the signature of %x is one of %x, too", m, other)
			}
		}
		if chain.Recover(key+1, m, sig) == pub || chain.Recover(key+1<<24, m, sig) == pub {
			t.Error("the signature is one of another key number, too")
		}
		swapped := sig
		swapped[0], swapped[1] = sig[1], sig[0]
		if chain.Recover(key, m, swapped) == pub {
			t.Error("two chains that changed places aren't noticed")
		}
	}
}

// TestSignatureMovedUp tries what can be made of a signature alone: no other digest's signature can be reached by climbing.
func TestSignatureMovedUp(t *testing.T) { // P4.2, P4.4
	m := some(1)
	sig, pub := chain.Sign(some(2), 3, m), chain.Public(some(2), 3)
	from := chain.Digits(m)
	for _, other := range digests() {
		if other == m {
			continue
		}
		moved := sig
		for c, to := range chain.Digits(other) {
			if to > from[c] {
				moved[c], _ = chain.Climb(3, uint8(c), sig[c], int(from[c]), int(to))
			}
		}
		if chain.Recover(3, other, moved) == pub {
			t.Errorf("a signature of %x was made out of that of %x", other, m)
		}
	}
}

// TestSecondSignature shows what a second accepted digest gives away: from a lower height it climbs to what the first signature reveals.
func TestSecondSignature(t *testing.T) { // P4.4
	m := some(1)
	sig, pub := chain.Sign(some(2), 3, m), chain.Public(some(2), 3)
	heights := chain.Digits(m)
	for _, other := range digests() {
		if other == m {
			continue
		}
		second := chain.Sign(some(2), 3, other)
		if chain.Recover(3, other, second) != pub {
			t.Errorf("the signature of %x isn't accepted", other)
		}
		found := false
		for c, low := range chain.Digits(other) {
			if low < heights[c] {
				x, e := chain.Climb(3, uint8(c), second[c], int(low), int(heights[c]))
				found = found || e == api.OK && x == sig[c]
			}
		}
		if !found {
			t.Errorf("the signature of %x gives nothing away", other)
		}
	}
}

func TestSameAgain(t *testing.T) { // P4.1, P4.3: nothing is kept between calls (R5)
	m := some(1)
	sig, pub := chain.Sign(some(2), 3, m), chain.Public(some(2), 3)
	chain.Sign(some(4), 5, some(6))
	if chain.Sign(some(2), 3, m) != sig || chain.Public(some(2), 3) != pub || chain.Recover(3, m, sig) != pub {
		t.Error("the same call answers otherwise the second time")
	}
}
