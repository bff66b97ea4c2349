package role_test

import (
	"bytes"
	"encoding/binary"
	"math"
	"math/rand"
	"slices"
	"testing"
	"unsafe"

	"hallmark/api"
	"hallmark/keys"
	"hallmark/role"
)

// encodesMarks reports it unless EncodeMarks answers as the oracle does, and DecodeMarks what was encoded.
func encodesMarks(t *testing.T, l []role.Mark) {
	t.Helper()
	want := len(l) <= mostKeys && !slices.ContainsFunc(l, func(m role.Mark) bool { return !hasForm(m.Sig) })
	b, e := role.EncodeMarks(l)
	if !want {
		if e != api.ErrArg || len(b) != 0 {
			t.Errorf("EncodeMarks of %d marks: %d bytes, %d, not ErrArg", len(l), len(b), e)
		}
		return
	}
	if e != api.OK || !bytes.Equal(b, encodedMarks(l)) {
		t.Errorf("EncodeMarks of %d marks: %x, %d, not %x", len(l), b, e, encodedMarks(l))
	}
	if x, e := role.DecodeMarks(b); !sameMarks(x, l) || e != api.OK {
		t.Errorf("DecodeMarks of EncodeMarks: %v, %d, not %v", x, e, l)
	}
}

// decodesMarks reports it unless DecodeMarks answers as the oracle does, and EncodeMarks what was decoded.
func decodesMarks(t *testing.T, b []byte) (accepted bool) {
	t.Helper()
	want, ok := decodedMarks(b)
	l, e := role.DecodeMarks(b)
	if ok != (e == api.OK) || ok && !sameMarks(l, want) || !ok && (e != api.ErrForm || len(l) != 0) {
		t.Errorf("DecodeMarks(%x) = %d marks, %d, not %d, %v", b, len(l), e, len(want), ok)
	}
	if again, e := role.EncodeMarks(l); ok && (e != api.OK || !bytes.Equal(again, b)) {
		t.Errorf("EncodeMarks of DecodeMarks(%x) = %x, %d", b, again, e)
	}
	return ok
}

func TestMarks(t *testing.T) { // P16.1: at most 16, in their order
	for n := range 20 {
		l := marksOf(n)
		encodesMarks(t, l)
		if ok := decodesMarks(t, encodedMarks(l)); ok != (n <= 16) {
			t.Errorf("%d marks: %v", n, ok)
		}
		slices.Reverse(l)
		encodesMarks(t, l)
	}
	for _, n := range []int{255, 256, 257, 272, 1 << 12} {
		encodesMarks(t, marksOf(n))
		decodesMarks(t, encodedMarks(marksOf(n)))
	}
	one := marksOf(1)[0]
	same := []role.Mark{one, one, one}
	encodesMarks(t, same)
	if !decodesMarks(t, encodedMarks(same)) {
		t.Error("one mark three times is refused")
	}
}

func TestMarksBytes(t *testing.T) { // P16.1
	var id api.Digest
	for i := range id {
		id[i] = byte(0xa0 + i)
	}
	s := unsigned(1, 5, 1)
	want := "\x01" + string(id[:]) + "\x82\x11" + "\x05\x01"
	for _, d := range s.Chains {
		want += string(d[:])
	}
	want += string(s.Path[0][:])
	b, e := role.EncodeMarks([]role.Mark{{Id: id, Sig: s}})
	if string(b) != want || e != api.OK || len(b) != 1+32+2+2146+32 {
		t.Errorf("EncodeMarks: %x, %d", b, e)
	}
	l, e := role.DecodeMarks([]byte(want))
	if !sameMarks(l, []role.Mark{{Id: id, Sig: s}}) || e != api.OK {
		t.Errorf("DecodeMarks: %v, %d", l, e)
	}
}

func TestMarksWithoutEncoding(t *testing.T) { // P16.1: wherever it stands
	for _, index := range []int{math.MinInt, -256, -1, 0, 1, 63, 64, 65, 255, 256, 1 << 32, math.MaxInt} {
		for _, path := range []int{0, 1, 5, 6, 7, 8, 255, 256, 262} {
			for n := range 4 {
				for at := range n + 1 {
					l := slices.Insert(marksOf(n), at, role.Mark{Id: some(9), Sig: unsigned(9, index, path)})
					encodesMarks(t, l)
				}
			}
		}
	}
}

func TestDecodeMarksAltered(t *testing.T) { // P16.1: at each place where something is told, each byte; elsewhere some
	for _, l := range [][]role.Mark{marksOf(2), {{Sig: unsigned(3, 0, 6)}}} {
		b := encodedMarks(l)
		told := map[int]bool{0: true}
		for i, at := 0, 1; i < len(l); i++ {
			for j := 30; j < 38; j++ {
				told[at+j] = true
			}
			at += len(encodedMark(l[i]))
			told[at-1], told[at-32] = true, true
		}
		for i := range len(b) + 1 {
			decodesMarks(t, b[:i])
			decodesMarks(t, b[i:])
			for c := range 256 {
				if !told[i] && c > 0 {
					break
				}
				decodesMarks(t, slices.Insert(slices.Clone(b), i, byte(c)))
				if i < len(b) {
					x := slices.Clone(b)
					x[i] = byte(c)
					decodesMarks(t, x)
				}
			}
			if i < len(b) {
				decodesMarks(t, slices.Delete(slices.Clone(b), i, i+1))
			}
		}
	}
}

// withLength is the encoding of one mark with these bytes in the place of its Text's length, and this signature.
func withLength(length, sig []byte) []byte {
	one := some(1)
	return slices.Concat([]byte{1}, one[:], length, sig)
}

func TestDecodeMarksTexts(t *testing.T) { // P16.1: the Text must be that of an encoded signature, in its only form
	s := encodedMarks([]role.Mark{{Sig: unsigned(1, 5, 0)}})[35:]
	if !decodesMarks(t, withLength([]byte{0xe2, 0x10}, s)) {
		t.Error("the Text is refused")
	}
	for _, length := range [][]byte{{}, {0}, {0xe2}, {0xe2, 0x90, 0}, {0xe2, 0x90, 0x80, 0}, {0xe1, 0x10}, {0xe3, 0x10}, {0xff, 0xff, 0xff, 0xff, 0xff, 0xff, 0xff, 0xff, 0xff, 1}, {0xff, 0xff, 0xff, 0xff, 0xff, 0xff, 0xff, 0xff, 0xff, 2}, {0xff, 0xff, 0xff, 0xff, 0xff, 0xff, 0xff, 0xff, 0x7f}, {0x80}} {
		if decodesMarks(t, withLength(length, s)) {
			t.Errorf("the length %x is accepted", length)
		}
	}
	for n := range 3000 {
		// The right length of bytes that may be a signature or not.
		sig := append(slices.Clone(s), make([]byte, 1000)...)[:n]
		for _, path := range []byte{0, 1, 2, 6, 7, 26} {
			if n > 1 {
				sig[1] = path
			}
			ok := decodesMarks(t, withLength(binary.AppendUvarint(nil, uint64(n)), sig))
			if want := path <= 6 && n == 2146+32*int(path); ok != want {
				t.Errorf("a signature of %d bytes with a path of %d: %v", n, path, ok)
			}
		}
	}
}

func TestDecodeMarksCounts(t *testing.T) { // P16.1: as many as are told, and nothing behind them
	for _, n := range []int{0, 1, 2, 15, 16, 17} {
		b := encodedMarks(marksOf(n))
		for c := range 256 {
			x := slices.Clone(b)
			x[0] = byte(c)
			if ok := decodesMarks(t, x); ok != (c == n && n <= 16) {
				t.Errorf("%d marks, of which %d are told: %v", n, c, ok)
			}
		}
		for _, more := range []string{"\x00", "\x01", "more"} {
			if decodesMarks(t, append(slices.Clone(b), more...)) {
				t.Errorf("%d marks and %q are accepted", n, more)
			}
		}
	}
}

func TestRandomMarks(t *testing.T) { // P16.1
	rnd := rand.New(rand.NewSource(161))
	accepted := 0
	for range 3000 {
		var l []role.Mark
		for range rnd.Intn(4) {
			l = append(l, role.Mark{Id: some(rnd.Intn(5)), Sig: unsigned(rnd.Intn(9), rnd.Intn(65), rnd.Intn(8))})
		}
		encodesMarks(t, l)
		b := encodedMarks(l)
		for range rnd.Intn(3) {
			i := rnd.Intn(len(b))
			switch rnd.Intn(4) {
			case 0:
				b[i] ^= 1 << rnd.Intn(8)
			case 1:
				b = slices.Delete(b, i, min(i+32, len(b)))
				b = append(b, 0)
			case 2:
				b = slices.Concat(b[:i], b[i/2:])
			case 3:
				b[0] = byte(rnd.Intn(5))
			}
		}
		if decodesMarks(t, b) {
			accepted++
		}
	}
	if accepted < 500 || accepted > 2900 {
		t.Errorf("%d of 3000 are accepted: the test tells little", accepted)
	}
}

func TestMarksKeepNothing(t *testing.T) { // R3
	want := marksOf(4)
	b := append(encodedMarks(want), "and more"...)
	n := len(b) - len("and more")
	l, e := role.DecodeMarks(b[:n])
	if !sameMarks(l, want) || e != api.OK || string(b) != string(encodedMarks(want))+"and more" {
		t.Errorf("DecodeMarks: %d", e)
	}
	clear(b)
	if !sameMarks(l, want) {
		t.Error("marks are in the argument's memory")
	}
	for i := range l {
		path := l[i].Sig.Path[:cap(l[i].Sig.Path)]
		for j := range path {
			path[j] = some(999)
		}
		l[i].Sig.Path = want[i].Sig.Path
		if !sameMarks(l, want) {
			t.Errorf("the path of mark %d is in other memory", i)
		}
	}
	for i := range want {
		want[i].Sig.Path = append(want[i].Sig.Path, some(77), some(78))[:len(want[i].Sig.Path)]
	}
	first, _ := role.EncodeMarks(want[:2])
	second, _ := role.EncodeMarks(want[:2])
	if !sameMarks(want, marksOf(4)) || want[1].Sig.Path[:2][1] != some(77) || unsafe.SliceData(first) == unsafe.SliceData(second) {
		t.Error("EncodeMarks changes its argument, or answers twice in one memory")
	}
	first = first[:cap(first)]
	for i := range first {
		first[i] = '?'
	}
	if !bytes.Equal(second, encodedMarks(want[:2])) {
		t.Error("a result is in other memory")
	}
}

// signer is a key, and its public part.
type signer struct {
	key    *keys.Key
	public keys.Public
}

// signers are n keys whose heights differ.
func signers(t *testing.T, n int) []signer {
	t.Helper()
	var l []signer
	for i := range n {
		k, e := keys.New(some(10+i), i%4)
		if e != api.OK {
			t.Fatalf("keys.New: %d", e)
		}
		l = append(l, signer{k, k.Public()})
	}
	return l
}

// mark is a mark of a key. It is always that of the key's first index: nothing of the tests hangs on what a signature reveals.
func (s signer) mark(t *testing.T, message string) role.Mark {
	t.Helper()
	copied := *s.key
	sig, e := copied.Sign([]byte(message))
	if e != api.OK {
		t.Fatalf("Sign: %d", e)
	}
	return role.Mark{Id: id(s.public), Sig: sig}
}

// counts reports it unless Count and Meets answer as the oracle does, with each Need.
func counts(t *testing.T, r role.Role, message string, l []role.Mark, want int) {
	t.Helper()
	if n := counted(r, []byte(message), l); n != want {
		t.Errorf("the oracle counts %d, not %d", n, want)
	}
	for _, need := range []int{math.MinInt, -1, 0, 1, 2, 3, 4, 5, 16, 17, math.MaxInt} {
		r.Need = need
		if n := role.Count(r, []byte(message), l); n != want {
			t.Errorf("Count of %d keys with Need %d and %d marks = %d, not %d", len(r.Keys), need, len(l), n, want)
		}
		if ok := role.Meets(r, []byte(message), l); ok != (right(r) && want >= need) {
			t.Errorf("Meets of %d keys with Need %d and %d marks = %v, Count %d", len(r.Keys), need, len(l), ok, want)
		}
	}
}

func TestExampleOfMarks(t *testing.T) { // P16.2, P16.3
	l := signers(t, 2)
	r := role.Role{Need: 2, Keys: []keys.Public{l[0].public, l[1].public}}
	a, b, message := l[0].mark(t, "m"), l[1].mark(t, "m"), []byte("m")
	if role.Meets(r, message, []role.Mark{a}) || role.Meets(r, message, []role.Mark{a, a}) || !role.Meets(r, message, []role.Mark{a, b}) {
		t.Error("the example's marks")
	}
	for _, need := range []int{0, 3} {
		r.Need = need
		if role.Meets(r, message, []role.Mark{a, b}) || role.Right(r) {
			t.Errorf("Need %d", need)
		}
	}
}

func TestCountOfEachSubset(t *testing.T) { // P16.2, P16.3: in each order of a few
	l := signers(t, 4)
	r := role.Role{}
	for _, s := range l {
		r.Keys = append(r.Keys, s.public)
	}
	for subset := range 16 {
		var marks []role.Mark
		for i, s := range l {
			if subset>>i&1 == 1 {
				marks = append(marks, s.mark(t, "message"))
			}
		}
		n := len(marks)
		counts(t, r, "message", marks, n)
		for range n {
			marks = append(marks[1:], marks[0])
			counts(t, r, "message", marks, n)
		}
		slices.Reverse(marks)
		counts(t, r, "message", slices.Concat(marks, marks, marks), n)
		counts(t, r, "messag", marks, 0)
		counts(t, r, "", marks, 0)
	}
}

func TestCountOfOthers(t *testing.T) { // P16.2, P16.3: what is no mark of a key of the role doesn't count, nor does it hide one that is
	l := signers(t, 5)
	r := role.Role{Keys: []keys.Public{l[0].public, l[1].public, l[2].public}}
	a, b, c := l[0].mark(t, "m"), l[1].mark(t, "m"), l[2].mark(t, "m")
	foreign, other := l[3].mark(t, "m"), l[0].mark(t, "n")
	wrong := []role.Mark{
		{}, foreign, other,
		{Id: a.Id}, {Id: a.Id, Sig: b.Sig}, {Id: b.Id, Sig: a.Sig}, {Id: a.Id, Sig: foreign.Sig}, {Id: foreign.Id, Sig: a.Sig}, {Sig: a.Sig},
		{Id: a.Id, Sig: unsigned(1, 0, l[0].public.Height)}, {Id: a.Id, Sig: unsigned(1, -1, 7)}, {Id: c.Id, Sig: unsigned(1, math.MaxInt, 200)},
	}
	for i := range a.Id {
		bad := a
		bad.Id[i] ^= 1
		wrong = append(wrong, bad)
	}
	for i := 0; i < len(b.Sig.Chains); i += 7 {
		bad := b
		bad.Sig.Chains[i][i%32] ^= 4
		wrong = append(wrong, bad)
	}
	counts(t, r, "m", wrong, 0)
	for _, m := range wrong {
		counts(t, r, "m", []role.Mark{m}, 0)
		counts(t, r, "m", []role.Mark{m, a}, 1)
		counts(t, r, "m", []role.Mark{a, m}, 1)
	}
	counts(t, r, "m", slices.Concat([]role.Mark{a}, wrong, []role.Mark{b}), 2)
	counts(t, r, "m", slices.Concat(wrong, []role.Mark{c, b, a, c}), 3)
	counts(t, r, "n", slices.Concat(wrong, []role.Mark{a, b, c}), 1)
}

func TestCountOfOtherIndices(t *testing.T) { // P16.2: any signature of a key is a mark of it, and two of them are one key
	k, e := keys.New(some(1), 2)
	if e != api.OK {
		t.Fatal(e)
	}
	r := role.Role{Keys: []keys.Public{k.Public(), public(1, 2)}}
	var l []role.Mark
	for range 4 {
		s, _ := k.Sign([]byte("m"))
		m := role.Mark{Id: id(k.Public()), Sig: s}
		l = append(l, m)
		counts(t, r, "m", []role.Mark{m}, 1)
		counts(t, r, "m", l, 1)
	}
}

func TestCountOfKeysTwice(t *testing.T) { // P16.2: each index of Keys is counted, also in a role that is none
	l := signers(t, 3)
	a, b := l[0].mark(t, "m"), l[1].mark(t, "m")
	twice := role.Role{Keys: []keys.Public{l[0].public, l[1].public, l[0].public, l[2].public}}
	counts(t, twice, "m", []role.Mark{a}, 2)
	counts(t, twice, "m", []role.Mark{a, a}, 2)
	counts(t, twice, "m", []role.Mark{b}, 1)
	counts(t, twice, "m", []role.Mark{b, a}, 3)
	many := role.Role{Keys: slices.Repeat([]keys.Public{l[0].public}, 20)}
	counts(t, many, "m", []role.Mark{b, a}, 20)
}

func TestCountOfHeights(t *testing.T) { // P16.2: an Id says the lowest byte of a height alone, keys.Verify the whole of it
	s := signers(t, 4)[3]
	m := s.mark(t, "m")
	var l []keys.Public
	for _, height := range []int{s.public.Height + 256, s.public.Height - 256, s.public.Height + 1<<32, 7, -1, math.MaxInt, math.MinInt + s.public.Height} {
		p := keys.Public{Height: height, Root: s.public.Root}
		l = append(l, p)
		counts(t, role.Role{Keys: []keys.Public{p}}, "m", []role.Mark{m, {Id: id(p), Sig: m.Sig}}, 0)
	}
	counts(t, role.Role{Keys: append(l, s.public)}, "m", []role.Mark{m}, 1)
}

func TestMeetsWithAllKeys(t *testing.T) { // P16.2: 16 keys, of which so many sign
	l := signers(t, 16)
	r := role.Role{}
	var marks []role.Mark
	for _, s := range l {
		r.Keys = append(r.Keys, s.public)
		marks = append(marks, s.mark(t, "m"))
	}
	for n := range 17 {
		for _, need := range []int{1, 7, 15, 16} {
			r.Need = need
			if ok := role.Meets(r, []byte("m"), marks[:n]); ok != (n >= need) {
				t.Errorf("%d of 16 keys with Need %d: %v", n, need, ok)
			}
		}
	}
	counts(t, r, "m", marks, 16)
	r.Keys = append(r.Keys, public(1, 1))
	counts(t, r, "m", marks, 16)
}

func TestCountRandom(t *testing.T) { // P16.2, P16.3
	rnd := rand.New(rand.NewSource(162))
	l := signers(t, 6)
	marks := []role.Mark{{}, {Id: id(l[0].public)}}
	for i, s := range l {
		marks = append(marks, s.mark(t, "m"), s.mark(t, "n"), role.Mark{Id: id(s.public), Sig: l[(i+1)%6].mark(t, "m").Sig})
	}
	for range 300 {
		r := role.Role{}
		for range rnd.Intn(6) {
			r.Keys = append(r.Keys, l[rnd.Intn(6)].public)
		}
		var some []role.Mark
		for range rnd.Intn(8) {
			some = append(some, marks[rnd.Intn(len(marks))])
		}
		message := []string{"m", "n"}[rnd.Intn(2)]
		counts(t, r, message, some, counted(r, []byte(message), some))
	}
}

func TestCountChangesNothing(t *testing.T) { // R3, R5
	l := signers(t, 3)
	r := role.Role{Need: 2, Keys: []keys.Public{l[0].public, l[1].public, l[2].public}}
	marks := []role.Mark{l[2].mark(t, "m"), l[1].mark(t, "m"), {Id: some(1)}}
	kept, want, message := slices.Clone(r.Keys), []role.Mark{l[2].mark(t, "m"), l[1].mark(t, "m"), {Id: some(1)}}, []byte("m and more")
	for range 3 {
		r.Keys, marks = r.Keys[:2], marks[:2]
		if n := role.Count(r, message[:1], marks); n != 1 || role.Meets(r, message[:1], marks) {
			t.Errorf("Count = %d", n)
		}
		r.Keys, marks = r.Keys[:3], marks[:3]
		if n := role.Count(r, message[:1], marks); n != 2 || !role.Meets(r, message[:1], marks) {
			t.Errorf("Count = %d", n)
		}
		if !slices.Equal(r.Keys, kept) || !sameMarks(marks, want) || string(message) != "m and more" {
			t.Error("an argument was changed")
		}
	}
}
