package role_test

import (
	"bytes"
	"encoding/binary"
	"math"
	"math/rand"
	"slices"
	"strings"
	"testing"
	"unsafe"

	"hallmark/api"
	"hallmark/keys"
	"hallmark/role"
)

// rights reports it unless Right answers as the oracle does, and so does RightRoot in each place where the role may stand.
func rights(t *testing.T, r role.Role) {
	t.Helper()
	want := right(r)
	if ok := role.Right(r); ok != want {
		t.Errorf("Right(%+v) = %v", r, ok)
	}
	good := rootOf(1, 1, 1)
	for i := range 3 {
		x := good
		*[]*role.Role{&x.Root, &x.Tags, &x.Log}[i] = r
		encodes(t, x)
	}
}

// encodes reports it unless RightRoot and Encode answer as the oracle does, and Decode what was encoded.
func encodes(t *testing.T, r role.Root) {
	t.Helper()
	want := rightRoot(r)
	if ok := role.RightRoot(r); ok != want {
		t.Errorf("RightRoot(%+v) = %v", r, ok)
	}
	b, e := role.Encode(r)
	if !want {
		if e != api.ErrArg || len(b) != 0 {
			t.Errorf("Encode(%+v) = %x, %d, not ErrArg", r, b, e)
		}
		return
	}
	if e != api.OK || !bytes.Equal(b, encoded(r)) {
		t.Errorf("Encode(%+v) = %x, %d, not %x", r, b, e, encoded(r))
	}
	if x, e := role.Decode(b); !sameRoot(x, r) || e != api.OK {
		t.Errorf("Decode of Encode(%+v) = %+v, %d", r, x, e)
	}
}

// decodes reports it unless Decode answers as the oracle does, and Encode what was decoded.
func decodes(t *testing.T, b []byte) (accepted bool) {
	t.Helper()
	want, ok := decoded(b)
	r, e := role.Decode(b)
	if !sameRoot(r, want) || ok != (e == api.OK) || !ok && e != api.ErrForm {
		t.Errorf("Decode(%x) = %+v, %d, not %+v, %v", b, r, e, want, ok)
	}
	if again, e := role.Encode(r); ok && (e != api.OK || !bytes.Equal(again, b)) {
		t.Errorf("Encode of Decode(%x) = %x, %d", b, again, e)
	}
	return ok
}

// numbers are numbers of which some are versions or times.
func numbers() []int {
	return []int{
		math.MinInt, math.MinInt + 1, -mostTime, -257, -256, -2, -1, 0, 1, 2, 255, 256, 1<<32 - 1, 1 << 32,
		mostTime - 1, mostTime, mostTime + 1, mostTime + 255, 2 * mostTime, 1 << 48, 1 << 56, math.MaxInt - 1, math.MaxInt,
	}
}

func TestExampleOfNeeds(t *testing.T) { // P16.1
	r := roleOf(2, 0, 2)
	for need := -1; need < 5; need++ {
		r.Need = need
		if ok := role.Right(r); ok != (need == 1 || need == 2) {
			t.Errorf("two keys with Need %d: %v", need, ok)
		}
	}
}

func TestNeeds(t *testing.T) { // P16.1: from 1 to the number of keys, which is at most 16
	needs := []int{math.MinInt, -256, -255, -2, -1, 255, 256, 257, 258, 272, 1 << 32, 1<<32 + 1, math.MaxInt}
	for n := range mostKeys + 3 {
		for need := range n + 3 {
			rights(t, roleOf(need, 0, n))
		}
		for _, need := range needs {
			rights(t, roleOf(need, 0, n))
		}
	}
	for _, n := range []int{17, 18, 32, 255, 256, 257, 258, 272, 1 << 16} {
		for _, need := range []int{0, 1, 2, 16, 17, n - 1, n, n + 1} {
			rights(t, roleOf(need, 0, n))
		}
	}
}

func TestHeights(t *testing.T) { // P16.1: from 0 to 6, of each key
	heights := []int{math.MinInt, -1 << 32, -256, -250, -7, -2, -1, 7, 8, 63, 128, 255, 256, 257, 262, 263, 1 << 32, 1<<32 + 3, math.MaxInt}
	for n := 1; n <= mostKeys; n += 3 {
		for at := range n {
			for height := range 8 {
				r := roleOf(n, 0, n)
				r.Keys[at].Height = height
				rights(t, r)
			}
			for _, height := range heights {
				r := roleOf(1, 0, n)
				r.Keys[at].Height = height
				rights(t, r)
			}
		}
	}
}

func TestKeysTwice(t *testing.T) { // P16.1: no two keys have the same Id, wherever they stand
	for n := 2; n <= mostKeys; n += 2 {
		for i := range n {
			for j := range n {
				r := roleOf(1, 0, n)
				r.Keys[i] = r.Keys[j]
				rights(t, r)
			}
		}
	}
	// With another height the root of one key is another key's.
	for n := 1; n <= 8; n++ {
		r := role.Role{Need: n}
		for i := range n {
			r.Keys = append(r.Keys, public(5, i))
		}
		rights(t, r)
		if right(r) != (n <= 7) {
			t.Errorf("%d keys of one root", n)
		}
	}
	// Of two heights of which the lowest bytes are the same one is none.
	rights(t, role.Role{Need: 1, Keys: []keys.Public{public(1, 2), public(1, 258)}})
	rights(t, role.Role{Need: 1, Keys: []keys.Public{public(1, 258), public(1, 2)}})
}

func TestKeysDifferInOneBit(t *testing.T) { // P16.1: other Ids, if the roots or the heights differ
	for i := range 256 {
		a := public(7, 3)
		b := a
		b.Root[i/8] ^= 1 << (i % 8)
		r := role.Role{Need: 2, Keys: []keys.Public{a, b}}
		if rights(t, r); !role.Right(r) {
			t.Errorf("roots that differ at %d", i)
		}
	}
}

func TestRolesOfOneRoot(t *testing.T) { // P16.1: the same keys may stand in all three
	r := roleOf(2, 0, 5)
	x := role.Root{Version: 1, Until: 0, Root: r, Tags: r, Log: r}
	encodes(t, x)
	if !role.RightRoot(x) || !decodes(t, encoded(x)) {
		t.Error("one role three times is refused")
	}
	for i := range 8 {
		x := rootOf(2, 3, 4)
		for j, part := range []*role.Role{&x.Root, &x.Tags, &x.Log} {
			if i>>j&1 == 1 {
				part.Need = 0
			}
		}
		encodes(t, x)
		decodes(t, encoded(x))
	}
}

func TestSizesOfRoles(t *testing.T) { // P16.1: each number of keys in each place
	for root := range mostKeys + 3 {
		for _, tags := range []int{0, 1, 2, 15, 16, 17, 255, 256} {
			for _, log := range []int{0, 1, 3, 16, 17, 255, 257} {
				x := rootOf(root, tags, log)
				encodes(t, x)
				decodes(t, encoded(x))
			}
		}
	}
}

func TestVersionsAndTimes(t *testing.T) { // P16.1
	for _, version := range numbers() {
		for _, until := range numbers() {
			x := rootOf(1, 2, 1)
			x.Version, x.Until = version, until
			encodes(t, x)
			decodes(t, encoded(x))
		}
	}
	for _, n := range []uint64{0, 1, mostTime, 1 << 62, math.MaxInt64, 1 << 63, 1<<63 + 1, 1<<63 + mostTime, math.MaxUint64 - 1, math.MaxUint64} {
		for _, at := range []int{1, 9} {
			b := encoded(rootOf(1, 2, 1))
			binary.BigEndian.PutUint64(b[at:], n)
			if decodes(t, b) && n > mostTime {
				t.Errorf("%d at %d is accepted", n, at)
			}
		}
	}
}

func TestEncodeBytes(t *testing.T) { // P16.1
	var a, b api.Digest
	for i := range a {
		a[i], b[i] = byte(0xa0+i), byte(0x10+i)
	}
	x := role.Root{
		Version: 0x0102030405, Until: 0x0a0b0c0d0e,
		Root: role.Role{Need: 1, Keys: []keys.Public{{Height: 0, Root: a}}},
		Tags: role.Role{Need: 2, Keys: []keys.Public{{Height: 6, Root: a}, {Height: 5, Root: b}}},
		Log:  role.Role{Need: 1, Keys: []keys.Public{{Height: 3, Root: b}, {Height: 2, Root: b}}},
	}
	want := "\x08\x00\x00\x00\x01\x02\x03\x04\x05\x00\x00\x00\x0a\x0b\x0c\x0d\x0e" +
		"\x01\x01\x00" + string(a[:]) +
		"\x02\x02\x06" + string(a[:]) + "\x05" + string(b[:]) +
		"\x01\x02\x03" + string(b[:]) + "\x02" + string(b[:])
	if got, e := role.Encode(x); string(got) != want || e != api.OK {
		t.Errorf("Encode: %x, %d", got, e)
	}
	if r, e := role.Decode([]byte(want)); !sameRoot(r, x) || e != api.OK {
		t.Errorf("Decode: %+v, %d", r, e)
	}
	whole := strings.Repeat("\x00", 5) + "\x01" + strings.Repeat("\x00", 2)
	least := "\x08" + "\x00\x00\x01\x00\x00\x00\x00\x00" + "\x00\x00\x01\x00\x00\x00\x00\x00" + strings.Repeat("\x01\x01"+strings.Repeat("\x00", 33), 3)
	r, e := role.Decode([]byte(least))
	one := role.Role{Need: 1, Keys: make([]keys.Public, 1)}
	if !sameRoot(r, role.Root{Version: mostTime, Until: mostTime, Root: one, Tags: one, Log: one}) || e != api.OK {
		t.Errorf("Decode: %+v, %d", r, e)
	}
	decodes(t, []byte("\x08"+whole+whole+strings.Repeat("\x01\x01"+strings.Repeat("\x00", 33), 3)))
}

func TestDecodeAltered(t *testing.T) { // P16.1: at each place, each byte
	for _, x := range []role.Root{rootOf(1, 1, 1), rootOf(1, 2, 1)} {
		b := encoded(x)
		for i := range len(b) + 1 {
			decodes(t, b[:i])
			decodes(t, b[i:])
			decodes(t, slices.Concat(b[:i], b))
			for c := range 256 {
				decodes(t, slices.Insert(slices.Clone(b), i, byte(c)))
			}
		}
		for i := range b {
			decodes(t, slices.Delete(slices.Clone(b), i, i+1))
			for c := range 256 {
				y := slices.Clone(b)
				y[i] = byte(c)
				decodes(t, y)
			}
		}
	}
}

func TestDecodeMoreKeys(t *testing.T) { // P16.1: what is written like a role, but is none
	for _, at := range []int{0, 1, 2} {
		for n := range 256 {
			for _, need := range []int{0, 1, n / 2, n, n + 1} {
				x := rootOf(2, 2, 2)
				*[]*role.Role{&x.Root, &x.Tags, &x.Log}[at] = roleOf(need, 0, n)
				decodes(t, encoded(x))
			}
		}
	}
	x := rootOf(2, 3, 2)
	x.Tags.Keys[2] = x.Tags.Keys[0]
	if b := encoded(x); decodes(t, b) {
		t.Errorf("Decode(%x) accepts a key twice", b)
	}
}

func TestDecodeLengths(t *testing.T) { // P16.1
	for n := range 300 {
		for _, c := range []byte{0, 1, 8, 255} {
			b := bytes.Repeat([]byte{c}, n)
			decodes(t, b)
			if n > 0 {
				b[0] = 8
				decodes(t, b)
			}
		}
	}
	full := rootOf(16, 16, 16)
	b := encoded(full)
	if len(b) != 17+3*(2+16*33) || !decodes(t, b) || decodes(t, append(b, 0)) || decodes(t, b[:len(b)-1]) {
		t.Error("a root of all keys that there may be")
	}
}

func TestRandomRoots(t *testing.T) { // P16.1
	rnd := rand.New(rand.NewSource(16))
	accepted := 0
	for range 20000 {
		x := rootOf(1+rnd.Intn(5), 1+rnd.Intn(5), 1+rnd.Intn(5))
		x.Version, x.Until = 1+rnd.Intn(mostTime), rnd.Intn(mostTime+1)
		x.Root.Need = 1 + rnd.Intn(6)
		encodes(t, x)
		b := encoded(x)
		for range rnd.Intn(3) {
			i := rnd.Intn(len(b))
			switch rnd.Intn(4) {
			case 0:
				b[i] ^= 1 << rnd.Intn(8)
			case 1:
				b = slices.Delete(b, i, min(i+33, len(b)))
			case 2:
				b = slices.Concat(b[:i], b[i/2:])
			case 3:
				b[17] = byte(rnd.Intn(8))
			}
		}
		if decodes(t, b) {
			accepted++
		}
	}
	if accepted < 1000 || accepted > 19000 {
		t.Errorf("%d of 20000 are accepted: the test tells little", accepted)
	}
}

func TestRootsDiffer(t *testing.T) { // P16.1: no two roots have one encoding
	seen := map[string]role.Root{}
	for i := range 4 {
		for _, version := range []int{1, 256} {
			for _, until := range []int{0, 1, 256} {
				for need := 1; need <= 2; need++ {
					x := rootOf(2+i%2, 1+i/2, 2)
					x.Version, x.Until, x.Log.Need = version, until, need
					b, e := role.Encode(x)
					if other, ok := seen[string(b)]; ok || e != api.OK {
						t.Fatalf("%+v is encoded like %+v: %d", x, other, e)
					}
					seen[string(b)] = x
				}
			}
		}
	}
}

func TestRootsKeepNothing(t *testing.T) { // R3
	want := rootOf(3, 2, 3)
	b := append(encoded(want), "and more"...)
	n := len(b) - len("and more")
	x, e := role.Decode(b[:n])
	if !sameRoot(x, want) || e != api.OK || string(b) != string(encoded(want))+"and more" {
		t.Errorf("Decode: %+v, %d; the argument is %x", x, e, b)
	}
	clear(b)
	if !sameRoot(x, want) {
		t.Errorf("%+v is in the argument's memory", x)
	}
	parts, others := []*role.Role{&x.Root, &x.Tags, &x.Log}, []role.Role{want.Root, want.Tags, want.Log}
	for i, part := range parts {
		l := part.Keys[:cap(part.Keys)]
		for j := range l {
			l[j] = public(999, 9)
		}
		*part = others[i]
		if !sameRoot(x, want) {
			t.Errorf("%+v: the lists of one result share memory", x)
		}
	}
	spare := rootOf(3, 2, 3)
	spare.Tags.Keys = spare.Tags.Keys[:1]
	spare.Tags.Need = 1
	first, _ := role.Encode(spare)
	second, _ := role.Encode(spare)
	if spare.Tags.Keys[:2][1] != want.Tags.Keys[1] || unsafe.SliceData(first) == unsafe.SliceData(second) {
		t.Error("Encode changes its argument, or answers twice in one memory")
	}
	first = first[:cap(first)]
	for i := range first {
		first[i] = '?'
	}
	if !bytes.Equal(second, encoded(spare)) {
		t.Errorf("%x: a result is in other memory", second)
	}
}

func TestNothing(t *testing.T) { // R1, R4
	if role.Right(role.Role{}) || role.RightRoot(role.Root{}) || role.Right(role.Role{Need: 0, Keys: []keys.Public{}}) {
		t.Error("a zero role or root is right")
	}
	if b, e := role.Encode(role.Root{}); len(b) != 0 || e != api.ErrArg {
		t.Errorf("Encode of a zero root: %x, %d", b, e)
	}
	for _, b := range [][]byte{nil, {}} {
		if x, e := role.Decode(b); !sameRoot(x, role.Root{}) || e != api.ErrForm {
			t.Errorf("Decode of no bytes: %+v, %d", x, e)
		}
		if l, e := role.DecodeMarks(b); len(l) != 0 || e != api.ErrForm {
			t.Errorf("DecodeMarks of no bytes: %v, %d", l, e)
		}
	}
	for _, l := range [][]role.Mark{nil, {}} {
		if b, e := role.EncodeMarks(l); string(b) != "\x00" || e != api.OK {
			t.Errorf("EncodeMarks of none: %x, %d", b, e)
		}
		if n := role.Count(roleOf(1, 0, 2), nil, l); n != 0 {
			t.Errorf("Count without marks: %d", n)
		}
	}
	if l, e := role.DecodeMarks([]byte{0}); len(l) != 0 || e != api.OK {
		t.Errorf("DecodeMarks of none: %v, %d", l, e)
	}
	if role.Count(role.Role{}, nil, nil) != 0 || role.Meets(role.Role{}, nil, nil) {
		t.Error("a zero role counts or is met")
	}
}
