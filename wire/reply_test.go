package wire_test

import (
	"bytes"
	"math"
	"math/rand"
	"slices"
	"strings"
	"testing"
	"unsafe"

	"hallmark/api"
	"hallmark/wire"
)

// replyEncodes reports it unless EncodeReply answers as the oracle does, and DecodeReply what was encoded.
func replyEncodes(t *testing.T, r wire.Reply) {
	t.Helper()
	b, e := wire.EncodeReply(r)
	if !rightReply(r) {
		if e != api.ErrArg || len(b) != 0 {
			t.Errorf("EncodeReply(%.200q) = %.200x, %d, not ErrArg", encodedReply(r), b, e)
		}
		return
	}
	if want := encodedReply(r); e != api.OK || !bytes.Equal(b, want) {
		t.Errorf("EncodeReply = %.200x, %d, not %.200x", b, e, want)
	}
	if x, e := wire.DecodeReply(b); !sameReply(x, r) || e != api.OK {
		t.Errorf("DecodeReply of EncodeReply(%.200q) = %.200q, %d", encodedReply(r), encodedReply(x), e)
	}
}

// replyDecodes reports it unless DecodeReply answers as the oracle does, and EncodeReply what was decoded.
func replyDecodes(t *testing.T, b []byte) (accepted bool) {
	t.Helper()
	want, ok := decodedReply(b)
	r, e := wire.DecodeReply(b)
	if !sameReply(r, want) || ok != (e == api.OK) || !ok && e != api.ErrForm {
		t.Errorf("DecodeReply(%.200x) = %.200q, %d, not %.200q, %v", b, encodedReply(r), e, encodedReply(want), ok)
	}
	if again, e := wire.EncodeReply(r); ok && (e != api.OK || !bytes.Equal(again, b)) {
		t.Errorf("EncodeReply of DecodeReply(%.200x) = %.200x, %d", b, again, e)
	}
	return ok
}

func TestReplyBytes(t *testing.T) { // P19.1
	var sum api.Digest
	for i := range sum {
		sum[i] = byte(0xa0 + i)
	}
	zero := strings.Repeat("\x00", 32)
	long := strings.Repeat("w", 128)
	for _, x := range []struct {
		r    wire.Reply
		want string
	}{
		{wire.Reply{}, "\x00" + zero + "\x00\x00\x00\x00\x00"},
		{wire.Reply{Code: api.ErrNone}, "\x06" + zero + "\x00\x00\x00\x00\x00"},
		{wire.Reply{Digest: sum, N: 1, M: 2, Body: []byte("xyz")}, "\x00" + string(sum[:]) + "\x01\x02\x03xyz\x00\x00"},
		{wire.Reply{N: mostTime, M: mostTime - 1, Words: []string{"latest", "", "v1"}}, "\x00" + zero + "\x80\x80\x80\x80\x80\x20\xff\xff\xff\xff\xff\x1f\x00\x03\x06latest\x00\x02v1\x00"},
		{wire.Reply{Code: 255, Sums: []api.Digest{sum, {}}}, "\xff" + zero + "\x00\x00\x00\x00\x02" + string(sum[:]) + zero},
		{wire.Reply{N: 300, M: 128, Body: make([]byte, 300), Words: []string{long, "\xff\x00"}, Sums: []api.Digest{sum}}, "\x00" + zero + "\xac\x02\x80\x01\xac\x02" + strings.Repeat("\x00", 300) + "\x02\x80\x01" + long + "\x02\xff\x00\x01" + string(sum[:])},
	} {
		if b, e := wire.EncodeReply(x.r); string(b) != x.want || e != api.OK {
			t.Errorf("EncodeReply(%+v) = %q, %d", x.r, b, e)
		}
		if r, e := wire.DecodeReply([]byte(x.want)); !sameReply(r, x.r) || e != api.OK {
			t.Errorf("DecodeReply(%q) = %+v, %d", x.want, r, e)
		}
	}
}

func TestCodes(t *testing.T) { // P19.1: from 0 to 255
	for code := api.Errno(-300); code < 600; code++ {
		replyEncodes(t, wire.Reply{Code: code, N: 1})
		if _, e := wire.EncodeReply(wire.Reply{Code: code}); (e == api.OK) != (code >= 0 && code <= 255) {
			t.Errorf("EncodeReply of the Code %d: %d", code, e)
		}
	}
	for _, code := range []api.Errno{math.MinInt, math.MinInt + 1, -1 << 32, 1 << 32, 1<<32 + 1, 1<<40 + 7, math.MaxInt} {
		replyEncodes(t, wire.Reply{Code: code})
	}
	for code := range 256 {
		if !replyDecodes(t, append([]byte{byte(code)}, make([]byte, 37)...)) {
			t.Errorf("the Code %d is refused", code)
		}
	}
}

func TestReplyNumbers(t *testing.T) { // P19.1: from 0 to MaxTime, each
	for _, n := range numbers() {
		for _, r := range []wire.Reply{{N: n}, {M: n}, {N: n, M: n}, {N: 300, M: n, Words: []string{"a"}}, {N: n, M: 5, Sums: somes(1)}} {
			replyEncodes(t, r)
			replyDecodes(t, encodedReply(r))
		}
	}
	for _, n := range wrongCounts() {
		// Each of the five is a number: N, M, and the lengths of Body, Words and Sums.
		for i := range 5 {
			l := []string{"\x00", "\x00", "\x00", "\x00", "\x00"}
			l[i] = n
			head, tail := strings.Repeat("\x00", 33), strings.Join(l, "")
			replyDecodes(t, []byte(head+tail))
			replyDecodes(t, []byte(head+tail+"\x00"))
			replyDecodes(t, []byte(head+strings.Join(l[:i+1], "")))
			replyDecodes(t, []byte(head+tail+strings.Repeat("\x00", 3200)))
		}
	}
}

func TestReplyBodies(t *testing.T) { // P19.1: at most MaxRecord bytes
	for _, n := range lengths() {
		r := wire.Reply{Body: bytes.Repeat([]byte{0, 1, 255}, n/3+1)[:n], Words: []string{"a"}}
		replyEncodes(t, r)
		b := encodedReply(r)
		replyDecodes(t, b)
		replyDecodes(t, b[:len(b)-1])
		replyDecodes(t, append(b, 0))
		if accepted := n <= mostBody; accepted != rightReply(r) {
			t.Errorf("a body of %d bytes", n)
		}
	}
}

func TestWords(t *testing.T) { // P19.1: at most 128 arbitrary bytes each
	for _, s := range texts() {
		for _, l := range [][]string{{s}, {s, s}, {"", s}, {s, "a"}, {"a", s, "b"}} {
			r := wire.Reply{Words: l, Sums: somes(len(l) - 1)}
			replyEncodes(t, r)
			replyDecodes(t, encodedReply(r))
		}
	}
	long := strings.Repeat("w", 129)
	for at := range 100 {
		l := slices.Repeat([]string{"w"}, 100)
		l[at] = long
		replyEncodes(t, wire.Reply{Words: l})
		replyDecodes(t, encodedReply(wire.Reply{Words: l}))
		l[at] = long[:128]
		replyEncodes(t, wire.Reply{Words: l})
	}
	for _, n := range wrongCounts() {
		head := strings.Repeat("\x00", 36)
		for _, s := range []string{"\x01" + n, "\x01" + n + "\x00", "\x02" + n + "\x00\x00", "\x02\x00" + n + "\x00", "\x02\x01a" + n + "a", "\x01" + n + "a\x00"} {
			replyDecodes(t, []byte(head+s))
		}
	}
}

func TestNumbersOfWords(t *testing.T) { // P19.1: at most MaxList
	for _, n := range []int{0, 1, 2, 3, 98, 99, 100, 101, 102, 127, 128, 129, 200, 255, 256, 257, 355, 356, 1 << 14, 1<<16 + 100} {
		for _, s := range []string{"", "a", "word"} {
			r := wire.Reply{Code: 1, Words: slices.Repeat([]string{s}, n)}
			replyEncodes(t, r)
			b := encodedReply(r)
			if replyDecodes(t, b) != (n <= 100) {
				t.Errorf("%d words", n)
			}
			replyDecodes(t, b[:len(b)-1])
			replyDecodes(t, append(b, 0))
		}
	}
	full := slices.Repeat([]string{strings.Repeat("w", 128)}, 100)
	if b, e := wire.EncodeReply(wire.Reply{Words: full}); len(b) != 33+3+1+100*130+1 || e != api.OK {
		t.Errorf("all words that there may be: %d bytes, %d", len(b), e)
	}
	replyEncodes(t, wire.Reply{Words: full})
}

func TestNumbersOfSums(t *testing.T) { // P19.1: at most MaxItems
	for _, n := range []int{0, 1, 2, 3, 127, 128, 129, 4094, 4095, 4096, 4097, 4098, 8192, 1<<14 + 1, 1<<16 + 1} {
		r := wire.Reply{Sums: somes(n)}
		replyEncodes(t, r)
		b := encodedReply(r)
		if replyDecodes(t, b) != (n <= 4096) {
			t.Errorf("%d digests", n)
		}
		for i := range min(33, n) {
			replyDecodes(t, b[:len(b)-i])
		}
		replyDecodes(t, append(b, 0))
		replyDecodes(t, append(b, make([]byte, 32)...))
	}
	// A number of digests without them, or with some of their bytes.
	for n := range 5000 {
		head := append(make([]byte, 37), count(n, "")...)
		replyDecodes(t, head)
		if n > 0 {
			replyDecodes(t, append(head, make([]byte, 31+n%65)...))
		}
	}
}

func TestFullReply(t *testing.T) { // P19.1, P19.2
	full := wire.Reply{
		Code: 255, Digest: some(9), N: mostTime, M: mostTime, Body: bytes.Repeat([]byte{255}, mostBody),
		Words: slices.Repeat([]string{strings.Repeat("\x00", 128)}, 100), Sums: somes(4096),
	}
	replyEncodes(t, full)
	b := encodedReply(full)
	if !replyDecodes(t, b) || replyDecodes(t, b[:len(b)-1]) || replyDecodes(t, append(b, 0)) {
		t.Error("a reply of all that there may be")
	}
}

func TestRepliesWrongInAnyPart(t *testing.T) { // P19.1: each choice of parts that are wrong
	wrong := []func(r *wire.Reply){
		func(r *wire.Reply) { r.Code = 256 },
		func(r *wire.Reply) { r.N = -1 },
		func(r *wire.Reply) { r.M = mostTime + 1 },
		func(r *wire.Reply) { r.Body = make([]byte, mostBody+1) },
		func(r *wire.Reply) { r.Words = append(r.Words, strings.Repeat("x", 129)) },
		func(r *wire.Reply) { r.Words = append(r.Words, make([]string, 101)...) },
		func(r *wire.Reply) { r.Sums = make([]api.Digest, 4097) },
	}
	for choice := range 1 << len(wrong) {
		r := wire.Reply{Code: 3}
		for i, change := range wrong {
			if choice>>i&1 == 1 {
				change(&r)
			}
		}
		replyEncodes(t, r)
		replyDecodes(t, encodedReply(r))
	}
}

// replies are replies of all forms that matter.
func replies() []wire.Reply {
	return []wire.Reply{
		{}, {Code: 6}, {N: 1}, {Digest: some(0), N: 3, Body: []byte("abc")}, {N: 128, M: mostTime}, {Words: []string{"a", "", "bc"}},
		{Code: 255, N: 1, M: 1, Body: []byte{0}, Words: []string{"\x00"}, Sums: somes(1)}, {Sums: somes(3)},
		{Words: []string{strings.Repeat("\x01", 128)}, Sums: make([]api.Digest, 1)},
	}
}

func TestRepliesAltered(t *testing.T) { // P19.1: at each place, each byte
	for _, r := range replies() {
		b := encodedReply(r)
		if !replyDecodes(t, b) {
			t.Fatalf("%x is not accepted", b)
		}
		eachAltered(b, func(x []byte) { replyDecodes(t, x) })
	}
}

func TestRepliesShort(t *testing.T) { // P19.1: each end of few bytes behind a digest
	set := []byte{0, 1, 2, 'a', 100, 101, 0x80, 0xff}
	accepted := map[int]int{}
	var all func(tail []byte)
	all = func(tail []byte) {
		for _, more := range []int{0, 32} {
			b := slices.Concat(make([]byte, 33), tail, make([]byte, more))
			if replyDecodes(t, b) && more == 0 {
				accepted[len(tail)]++
			}
		}
		for _, c := range set {
			if len(tail) < 6 {
				all(append(slices.Clip(tail), c))
			}
		}
	}
	all(nil)
	// Six of the bytes are a number by themselves; 80 and ff are one with each of the five behind them that aren't 0.
	// Of five bytes N and M are any of the six, and no more follows. Of six bytes N or M takes two, or a body has one byte, which may be any of the eight, or there is one empty word.
	small, two := 6, 2*5
	if accepted[5] != small*small || accepted[6] != 2*small*two+small*small*(8+1) || len(accepted) != 2 {
		t.Errorf("accepted: %v", accepted)
	}
}

func randomReply(r *rand.Rand) wire.Reply {
	x := wire.Reply{Code: api.Errno(r.Intn(256)), N: randomNumber(r), M: randomNumber(r), Body: []byte(randomText(r)), Sums: somes(r.Intn(3))}
	for range r.Intn(4) {
		x.Words = append(x.Words, randomText(r))
	}
	if r.Intn(2) == 0 {
		x.Digest = some(r.Intn(5))
	}
	switch r.Intn(40) {
	case 0:
		x.Code = api.Errno(r.Intn(600) - 300)
	case 1:
		x.Words = slices.Repeat([]string{randomText(r)}, 97+r.Intn(6))
	case 2:
		x.Sums = make([]api.Digest, 4094+r.Intn(5))
	}
	return x
}

func TestRandomReplies(t *testing.T) { // P19.1, P19.2
	rnd := rand.New(rand.NewSource(194))
	accepted := 0
	for range 20000 {
		x := randomReply(rnd)
		replyEncodes(t, x)
		b := encodedReply(x)
		replyDecodes(t, b)
		if replyDecodes(t, alter(rnd, b)) {
			accepted++
		}
	}
	if accepted < 400 || accepted > 19600 {
		t.Errorf("%d of 20000 are accepted: the test tells little", accepted)
	}
}

func TestRepliesDiffer(t *testing.T) { // P19.2: no two replies have one encoding, also where bytes move from one field to the next
	seen := map[string]wire.Reply{}
	keep := func(r wire.Reply) {
		b, e := wire.EncodeReply(r)
		if e != api.OK {
			return
		}
		if other, ok := seen[string(b)]; ok && !sameReply(other, r) {
			t.Fatalf("%+v is encoded like %+v: %x", r, other, b)
		}
		seen[string(b)] = r
	}
	names := []string{"", "a", "\x00", "\x01", "\x01a", "\x00\x00", "\x00\x01a", strings.Repeat("\x00", 32), strings.Repeat("\x00", 33)}
	for _, body := range names {
		for _, a := range names {
			for _, b := range names {
				for _, l := range [][]string{nil, {a}, {a, b}, {a + b}} {
					for n := range 3 {
						keep(wire.Reply{Code: api.Errno(n), N: n, Body: []byte(body), Words: l, Sums: make([]api.Digest, n)})
						keep(wire.Reply{M: n, Digest: api.Digest{31: byte(n)}, Body: []byte(body), Words: l})
					}
				}
			}
		}
	}
	for n := range 300 {
		for m := range 140 {
			keep(wire.Reply{N: n, M: m})
			keep(wire.Reply{Code: api.Errno(n), N: m})
		}
	}
	rnd := rand.New(rand.NewSource(195))
	for range 20000 {
		keep(randomReply(rnd))
	}
}

// scrawl overwrites a list to the end of its memory.
func scrawl[T any](l []T, x T) {
	l = l[:cap(l)]
	for i := range l {
		l[i] = x
	}
}

func TestRepliesKeepNothing(t *testing.T) { // R3
	for _, want := range replies() {
		b := append(encodedReply(want), "and more"...)
		r, e := wire.DecodeReply(b[:len(b)-8])
		if !sameReply(r, want) || e != api.OK || string(b) != string(encodedReply(want))+"and more" {
			t.Errorf("DecodeReply: %+v, %d; the argument is %x", r, e, b)
		}
		scrawl(b, '?')
		if !sameReply(r, want) {
			t.Errorf("%+v is in the memory of the argument", r)
		}
		body, words, sums := r.Body, r.Words, r.Sums
		scrawl(body, '?')
		r.Body = want.Body
		if !sameReply(r, want) {
			t.Errorf("%+v: the body shares memory", r)
		}
		scrawl(words, "?")
		r.Words = want.Words
		if !sameReply(r, want) {
			t.Errorf("%+v: the words share memory", r)
		}
		scrawl(sums, some(77))
		r.Sums = want.Sums
		if again, e := wire.DecodeReply(encodedReply(want)); !sameReply(r, want) || !sameReply(again, want) || e != api.OK {
			t.Errorf("%+v, %+v: the digests share memory", r, again)
		}
	}
}

func TestEncodedRepliesKeepNothing(t *testing.T) { // R3
	for _, want := range replies() {
		body := append(slices.Clone(want.Body), "and more"...)
		words := append(slices.Clone(want.Words), "and", "more")
		sums := append(slices.Clone(want.Sums), some(7), some(8))
		r := want
		r.Body, r.Words, r.Sums = body[:len(want.Body)], words[:len(want.Words)], sums[:len(want.Sums)]
		first, _ := wire.EncodeReply(r)
		second, _ := wire.EncodeReply(r)
		if unsafe.SliceData(first) == unsafe.SliceData(second) {
			t.Error("two results are in one memory")
		}
		scrawl(first, '?')
		if !sameReply(r, want) || !bytes.Equal(second, encodedReply(want)) {
			t.Errorf("%+v, %x: a result is in other memory", r, second)
		}
		n, k := len(words), len(sums)
		if string(body) != string(want.Body)+"and more" || words[n-2]+words[n-1] != "andmore" || sums[k-2] != some(7) || sums[k-1] != some(8) {
			t.Errorf("%q, %q, %x: the argument has changed", body, words, sums)
		}
	}
}

func TestNoReply(t *testing.T) { // R1, R2, R4
	for _, b := range [][]byte{nil, {}} {
		if r, e := wire.DecodeReply(b); !sameReply(r, wire.Reply{}) || e != api.ErrForm {
			t.Errorf("DecodeReply of no bytes: %+v, %d", r, e)
		}
	}
	for _, r := range []wire.Reply{{}, {Body: []byte{}, Words: []string{}, Sums: []api.Digest{}}} {
		if b, e := wire.EncodeReply(r); !bytes.Equal(b, make([]byte, 38)) || e != api.OK {
			t.Errorf("EncodeReply of nothing: %x, %d", b, e)
		}
	}
	full := wire.Reply{Code: 6, Digest: some(1), N: 1, M: 2, Body: []byte("x"), Words: []string{"a"}, Sums: somes(2)}
	b := encodedReply(full)
	if r, e := wire.DecodeReply(b[:len(b)-1]); !sameReply(r, wire.Reply{}) || e != api.ErrForm {
		t.Errorf("DecodeReply without the last byte: %+v, %d", r, e)
	}
}
