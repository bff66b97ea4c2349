package wire_test

import (
	"bytes"
	"encoding/binary"
	"math"
	"math/rand"
	"slices"
	"strings"
	"testing"
	"unsafe"

	"hallmark/api"
	"hallmark/wire"
)

// encodes reports it unless EncodeRequest answers as the oracle does, and DecodeRequest what was encoded.
func encodes(t *testing.T, r wire.Request) {
	t.Helper()
	b, e := wire.EncodeRequest(r)
	if !rightRequest(r) {
		if e != api.ErrArg || len(b) != 0 {
			t.Errorf("EncodeRequest(%.200q) = %.200x, %d, not ErrArg", requestText(r), b, e)
		}
		return
	}
	if want := encodedRequest(r); e != api.OK || !bytes.Equal(b, want) {
		t.Errorf("EncodeRequest(%.200q) = %.200x, %d, not %.200x", requestText(r), b, e, want)
	}
	if x, e := wire.DecodeRequest(b); !sameRequest(x, r) || e != api.OK {
		t.Errorf("DecodeRequest of EncodeRequest(%.200q) = %.200q, %d", requestText(r), requestText(x), e)
	}
}

// decodes reports it unless DecodeRequest answers as the oracle does, and EncodeRequest what was decoded.
func decodes(t *testing.T, b []byte) (accepted bool) {
	t.Helper()
	want, ok := decodedRequest(b)
	r, e := wire.DecodeRequest(b)
	if !sameRequest(r, want) || ok != (e == api.OK) || !ok && e != api.ErrForm {
		t.Errorf("DecodeRequest(%.200x) = %.200q, %d, not %.200q, %v", b, requestText(r), e, requestText(want), ok)
	}
	if again, e := wire.EncodeRequest(r); ok && (e != api.OK || !bytes.Equal(again, b)) {
		t.Errorf("EncodeRequest of DecodeRequest(%.200x) = %.200x, %d", b, again, e)
	}
	return ok
}

// requestText shows a request, also one that has no encoding.
func requestText(r wire.Request) []byte { return encodedRequest(r) }

// numbers are numbers of which some are times.
func numbers() []int {
	l := []int{math.MinInt, math.MinInt + 1, -mostTime, -257, -256, -128, -2, -1, mostTime + 255, 2 * mostTime, 1 << 48, 1 << 56, math.MaxInt - 1, math.MaxInt}
	for i := range 41 {
		l = append(l, 1<<i-1, 1<<i, 1<<i+1)
	}
	return l
}

// wrongCounts are ways to write a number that are none, or that are no time's or length's.
func wrongCounts() []string {
	l := []string{
		"", "\x80", "\x80\x00", "\x80\x80", "\x80\x80\x00", "\x81\x00", "\x81\x80\x00", "\xff\x00", "\x80\x81\x00", "\xff\xff\xff\xff\xff\xff\xff\xff\x7f",
		"\xff\xff\xff\xff\xff\xff\xff\xff\xff\x01", "\xff\xff\xff\xff\xff\xff\xff\xff\xff\x02", "\x80\x80\x80\x80\x80\x80\x80\x80\x80\x01", "\x81\x80\x80\x80\x80\x80\x80\x80\x80\x00",
		"\x81\x80\x80\x80\x80\x80\x80\x80\x80\x80\x01", "\x80\x80\x80\x80\x80\x80\x80\x80\x80\x7f", "\xff\xff\xff\xff\xff\xff\xff\xff\xff\xff\x01",
	}
	for _, n := range []uint64{mostTime, mostTime + 1, 1 << 32, 1<<32 + 1, 1<<32 + 97, 1 << 41, math.MaxInt64, 1 << 63, 1<<63 + 1, 1<<63 + 97, math.MaxUint64} {
		l = append(l, string(binary.AppendUvarint(nil, n)))
	}
	return l
}

func TestExample(t *testing.T) { // P19.1
	want := slices.Concat([]byte{18, 0, 0}, make([]byte, 32), []byte{0, 0, 0, 0})
	b, e := wire.EncodeRequest(wire.Request{Op: wire.Head})
	if len(b) != 39 || !bytes.Equal(b, want) || e != api.OK {
		t.Errorf("EncodeRequest: %v, %d", b, e)
	}
	if r, e := wire.DecodeRequest(want); !sameRequest(r, wire.Request{Op: 18}) || e != api.OK {
		t.Errorf("DecodeRequest: %+v, %d", r, e)
	}
}

func TestOperations(t *testing.T) { // P19.1: their order, and no others
	for i, op := range []int{
		wire.Start, wire.Patch, wire.Look, wire.Finish, wire.Cancel, wire.Mount, wire.Stat, wire.Read, wire.Unlink, wire.Push,
		wire.Fetch, wire.Drop, wire.Tag, wire.Untag, wire.Tags, wire.Refs, wire.Resolve, wire.Head, wire.Entry, wire.Proof,
	} {
		if op != i+1 {
			t.Errorf("operation %d is %d", i+1, op)
		}
		if b, e := wire.EncodeRequest(wire.Request{Op: op}); len(b) != 39 || b[0] != byte(i+1) || e != api.OK {
			t.Errorf("EncodeRequest of operation %d: %x, %d", op, b, e)
		}
	}
	for op := -300; op < 600; op++ {
		encodes(t, wire.Request{Op: op, Repo: "a", Word: "b", Id: 1})
	}
	for _, op := range []int{math.MinInt, math.MinInt + 1, -1 << 32, 1 << 32, 1<<32 + 1, 1<<32 + 20, 1<<40 + 7, math.MaxInt} {
		encodes(t, wire.Request{Op: op})
	}
	for op := range 256 {
		b := slices.Concat([]byte{byte(op)}, []byte("\x01a\x01b"), make([]byte, 36))
		if decodes(t, b) != (op >= 1 && op <= 20) {
			t.Errorf("operation %d", op)
		}
	}
}

func TestRequestBytes(t *testing.T) { // P19.1
	var sum api.Digest
	for i := range sum {
		sum[i] = byte(0xa0 + i)
	}
	zero := strings.Repeat("\x00", 32)
	for _, x := range []struct {
		r    wire.Request
		want string
	}{
		{wire.Request{Op: 1, Repo: "library/alpine", Word: "3.20", Digest: sum, Id: 1, At: 2, N: 3, Body: []byte("xyz")}, "\x01\x0elibrary/alpine\x043.20" + string(sum[:]) + "\x01\x02\x03\x03xyz"},
		{wire.Request{Op: 20, Repo: "a", At: 127, N: 128}, "\x14\x01a\x00" + zero + "\x00\x7f\x80\x01\x00"},
		{wire.Request{Op: 2, Word: "\x00\xff", Id: mostTime, At: mostTime - 1, N: 300}, "\x02\x00\x02\x00\xff" + zero + "\x80\x80\x80\x80\x80\x20\xff\xff\xff\xff\xff\x1f\xac\x02\x00"},
		{wire.Request{Op: 10, Repo: strings.Repeat("r", 128), Word: strings.Repeat("w", 127), Body: make([]byte, 300)}, "\x0a\x80\x01" + strings.Repeat("r", 128) + "\x7f" + strings.Repeat("w", 127) + zero + "\x00\x00\x00\xac\x02" + strings.Repeat("\x00", 300)},
	} {
		if b, e := wire.EncodeRequest(x.r); string(b) != x.want || e != api.OK {
			t.Errorf("EncodeRequest(%+v) = %q, %d", x.r, b, e)
		}
		if r, e := wire.DecodeRequest([]byte(x.want)); !sameRequest(r, x.r) || e != api.OK {
			t.Errorf("DecodeRequest(%q) = %+v, %d", x.want, r, e)
		}
	}
}

func TestRequestNumbers(t *testing.T) { // P19.1: from 0 to MaxTime, each
	for _, n := range numbers() {
		for _, r := range []wire.Request{{Op: 2, Id: n}, {Op: 2, At: n}, {Op: 2, N: n}, {Op: 2, Id: n, At: n, N: n}, {Op: 2, Id: 5, At: n, N: 300}} {
			encodes(t, r)
			decodes(t, encodedRequest(r))
		}
	}
	for _, n := range wrongCounts() {
		for i := range 4 {
			l := []string{"\x00", "\x00", "\x00", "\x00"}
			l[i] = n
			head, tail := "\x02\x01a\x01b"+strings.Repeat("\x00", 32), strings.Join(l, "")
			decodes(t, []byte(head+tail))
			decodes(t, []byte(head+tail+"\x00"))
			decodes(t, []byte(head+strings.Join(l[:i+1], "")))
		}
	}
}

// texts are strings around the limit of their length, and of all bytes.
func texts() []string {
	l := []string{"", "a", "A:@/", "\x00", "\x80", "ä", "\xc3", "a\nb", "\r\n", "library/alpine", "latest"}
	for n := 120; n < 136; n++ {
		l = append(l, strings.Repeat("a", n), strings.Repeat("\xff", n), strings.Repeat("ä", n/2))
	}
	for c := range 256 {
		l = append(l, string([]byte{byte(c)}), string([]byte{'x', byte(c), 'y'}))
	}
	for _, n := range []int{255, 256, 257, 1 << 14, 1<<16 + 1, 1 << 20, 1<<20 + 1} {
		l = append(l, strings.Repeat("b", n))
	}
	return l
}

func TestRequestTexts(t *testing.T) { // P19.1: at most 128 arbitrary bytes each
	for _, s := range texts() {
		for _, r := range []wire.Request{{Op: 6, Repo: s}, {Op: 6, Word: s}, {Op: 6, Repo: s, Word: s}, {Op: 6, Repo: "a", Word: s, N: 1}, {Op: 6, Repo: s, Word: "b", Body: []byte(s)}} {
			encodes(t, r)
			decodes(t, encodedRequest(r))
		}
	}
	for _, n := range wrongCounts() {
		rest := strings.Repeat("\x00", 36)
		for _, s := range []string{n + "a\x01b", "\x01a" + n + "b", n + "\x00", "\x00" + n, n, n + n} {
			decodes(t, []byte("\x06"+s+rest))
			decodes(t, []byte("\x06"+s))
		}
	}
}

// lengths are lengths of bodies, most of them not too long.
func lengths() []int {
	return []int{0, 1, 2, 31, 32, 33, 127, 128, 129, 16383, 16384, 65535, 65536, 65537, 1<<20 - 1, 1 << 20, 1<<20 + 1, 1<<20 + 2, 1<<21 - 1, 1 << 21}
}

func TestRequestBodies(t *testing.T) { // P19.1: at most MaxRecord bytes
	for _, n := range lengths() {
		r := wire.Request{Op: 2, Body: bytes.Repeat([]byte{0, 1, 255}, n/3+1)[:n]}
		encodes(t, r)
		b := encodedRequest(r)
		decodes(t, b)
		decodes(t, b[:len(b)-1])
		decodes(t, append(b, 0))
		if accepted := n <= mostBody; accepted != rightRequest(r) {
			t.Errorf("a body of %d bytes", n)
		}
	}
	full := wire.Request{Op: 20, Repo: strings.Repeat("r", 128), Word: strings.Repeat("w", 128), Digest: some(1), Id: mostTime, At: mostTime, N: mostTime, Body: make([]byte, mostBody)}
	if b, e := wire.EncodeRequest(full); len(b) != 1+2*130+32+3*6+3+mostBody || e != api.OK {
		t.Errorf("EncodeRequest of all that may be: %d bytes, %d", len(b), e)
	}
	encodes(t, full)
}

func TestRequestsWrongInAnyPart(t *testing.T) { // P19.1: each choice of parts that are wrong
	long := strings.Repeat("x", 129)
	wrong := []func(r *wire.Request){
		func(r *wire.Request) { r.Op = 21 },
		func(r *wire.Request) { r.Repo = long },
		func(r *wire.Request) { r.Word = long },
		func(r *wire.Request) { r.Id = -1 },
		func(r *wire.Request) { r.At = mostTime + 1 },
		func(r *wire.Request) { r.N = -1 },
		func(r *wire.Request) { r.Body = make([]byte, mostBody+1) },
	}
	for choice := range 1 << len(wrong) {
		r := wire.Request{Op: 3}
		for i, change := range wrong {
			if choice>>i&1 == 1 {
				change(&r)
			}
		}
		encodes(t, r)
		decodes(t, encodedRequest(r))
	}
}

// requests are requests of all forms that matter.
func requests() []wire.Request {
	return []wire.Request{
		{Op: 18}, {Op: 1, Repo: "a"}, {Op: 2, Repo: "a/b", Id: 1, At: 128, Body: []byte("body")}, {Op: 6, Repo: "a", Word: "b", Digest: some(0)},
		{Op: 13, Repo: "r", Word: "t", Digest: some(1), At: mostTime, Body: []byte{0}}, {Op: 20, At: 1, N: 300},
		{Op: 8, Repo: strings.Repeat("r", 128), Word: "\x00", Id: 1 << 21, N: 1 << 39}, {Op: 3, Word: strings.Repeat("\x01", 127), Body: bytes.Repeat([]byte{7}, 130)},
	}
}

// eachAltered is done with all that a change at one place of b makes of it.
func eachAltered(b []byte, do func([]byte)) {
	for i := range len(b) + 1 {
		do(b[:i])
		do(b[i:])
		do(slices.Concat(b[:i], b))
		for c := range 256 {
			do(slices.Insert(slices.Clone(b), i, byte(c)))
		}
	}
	for i := range b {
		do(slices.Delete(slices.Clone(b), i, i+1))
		for c := range 256 {
			x := slices.Clone(b)
			x[i] = byte(c)
			do(x)
		}
	}
}

func TestRequestsAltered(t *testing.T) { // P19.1: at each place, each byte
	for _, r := range requests() {
		b := encodedRequest(r)
		if !decodes(t, b) {
			t.Fatalf("%x is not accepted", b)
		}
		eachAltered(b, func(x []byte) { decodes(t, x) })
	}
}

func TestRequestsShort(t *testing.T) { // P19.1: each beginning and end of few bytes, around a digest
	set := []byte{0, 1, 2, 20, 21, 'a', 0x80, 0x81, 0xff}
	accepted := 0
	var all func(head, tail []byte)
	all = func(head, tail []byte) {
		if decodes(t, slices.Concat(head, make([]byte, 32), tail)) {
			accepted++
		}
		for _, c := range set {
			if len(head) < 3 {
				all(append(slices.Clip(head), c), tail)
			} else if len(tail) < 3 {
				all(head, append(slices.Clip(tail), c))
			}
		}
	}
	all(nil, nil)
	for op := range 22 {
		for _, tail := range []string{"\x00\x00\x00\x00", "\x01\x02\x03\x00", "\x00\x00\x00\x01a", "\x80\x01\x00\x00\x00", "\x00\x80\x00\x00\x00", "\x00\x00\x00\x00\x00"} {
			if decodes(t, slices.Concat([]byte{byte(op), 0, 0}, make([]byte, 32), []byte(tail))) {
				accepted++
			}
		}
	}
	// No three bytes are an end, but 20 operations have four of these ends.
	if accepted != 80 {
		t.Errorf("%d accepted", accepted)
	}
}

// randomText is a string that is rarely too long.
func randomText(r *rand.Rand) string {
	n := r.Intn(4)
	if r.Intn(8) == 0 {
		n = 120 + r.Intn(10)
	}
	b := make([]byte, n)
	for i := range b {
		b[i] = byte(r.Intn([]int{2, 256}[r.Intn(2)]))
	}
	return string(b)
}

// randomNumber is a number that is rarely none of a message.
func randomNumber(r *rand.Rand) int {
	switch r.Intn(40) {
	case 0:
		return int(r.Uint64())
	case 1:
		return mostTime - 2 + r.Intn(5)
	case 2:
		return -r.Intn(3)
	}
	return r.Intn(1 << r.Intn(41))
}

func randomRequest(r *rand.Rand) wire.Request {
	x := wire.Request{Op: 1 + r.Intn(20), Repo: randomText(r), Word: randomText(r), Id: randomNumber(r), At: randomNumber(r), N: randomNumber(r), Body: []byte(randomText(r))}
	if r.Intn(2) == 0 {
		x.Digest = some(r.Intn(5))
	}
	if r.Intn(20) == 0 {
		x.Op = r.Intn(300) - 20
	}
	return x
}

// alter changes a byte or two, or takes some away, or puts some twice.
func alter(r *rand.Rand, b []byte) []byte {
	b = slices.Clone(b)
	for range 1 + r.Intn(3) {
		i := r.Intn(len(b))
		switch r.Intn(4) {
		case 0:
			b[i] = byte(r.Intn(4))
		case 1:
			b[i] ^= 1 << r.Intn(8)
		case 2:
			if len(b) > 1 {
				b = slices.Delete(b, i, min(i+1+r.Intn(2), len(b)))
			}
		case 3:
			b = slices.Concat(b[:i], b[i/2:])
		}
		if len(b) == 0 {
			return b
		}
	}
	return b
}

func TestRandomRequests(t *testing.T) { // P19.1, P19.2
	rnd := rand.New(rand.NewSource(191))
	accepted := 0
	for range 50000 {
		x := randomRequest(rnd)
		encodes(t, x)
		b := encodedRequest(x)
		decodes(t, b)
		if decodes(t, alter(rnd, b)) {
			accepted++
		}
	}
	if accepted < 1000 || accepted > 49000 {
		t.Errorf("%d of 50000 are accepted: the test tells little", accepted)
	}
}

func TestNoise(t *testing.T) { // P19.1, R1: any bytes
	rnd := rand.New(rand.NewSource(192))
	for range 200000 {
		b := make([]byte, rnd.Intn(120))
		for i := range b {
			b[i] = byte(rnd.Intn([]int{2, 4, 128, 256}[rnd.Intn(4)]))
		}
		decodes(t, b)
		replyDecodes(t, b)
	}
	for n := range 300 {
		for _, c := range []byte{0, 1, 2, 127, 128, 255} {
			decodes(t, bytes.Repeat([]byte{c}, n))
			replyDecodes(t, bytes.Repeat([]byte{c}, n))
		}
	}
}

func TestRequestsDiffer(t *testing.T) { // P19.2: no two requests have one encoding, also where bytes move from one field to the next
	seen := map[string]wire.Request{}
	names := []string{"", "a", "\x00", "\x01", "\x01a", "a\x01", strings.Repeat("\x01", 127), strings.Repeat("\x01", 128)}
	keep := func(r wire.Request) {
		b, e := wire.EncodeRequest(r)
		if e != api.OK {
			return
		}
		if other, ok := seen[string(b)]; ok && !sameRequest(other, r) {
			t.Fatalf("%+v is encoded like %+v: %x", r, other, b)
		}
		seen[string(b)] = r
	}
	for _, repo := range names {
		for _, word := range names {
			for _, body := range names {
				for i := range 16 {
					keep(wire.Request{Op: 1 + i, Repo: repo, Word: word, Digest: some(i % 3), Id: i, At: 128 * i, N: 1 << (2 * i), Body: []byte(body)})
				}
			}
		}
	}
	for id := range 130 {
		for at := range 130 {
			keep(wire.Request{Op: 1, Id: id, At: at})
			keep(wire.Request{Op: 1, At: id, N: at})
			keep(wire.Request{Op: 1, Id: at, N: id})
		}
	}
	rnd := rand.New(rand.NewSource(193))
	for range 50000 {
		keep(randomRequest(rnd))
	}
}

func TestRequestsKeepNothing(t *testing.T) { // R3
	for _, want := range requests() {
		b := append(encodedRequest(want), "and more"...)
		r, e := wire.DecodeRequest(b[:len(b)-8])
		if !sameRequest(r, want) || e != api.OK || string(b) != string(encodedRequest(want))+"and more" {
			t.Errorf("DecodeRequest: %+v, %d; the argument is %x", r, e, b)
		}
		clear(b)
		if !sameRequest(r, want) {
			t.Errorf("%+v is in the memory of the argument", r)
		}
		body := append(slices.Clip(r.Body), "and more"...)
		r.Body = body[:len(r.Body)]
		first, _ := wire.EncodeRequest(r)
		second, _ := wire.EncodeRequest(r)
		if unsafe.SliceData(first) == unsafe.SliceData(second) || string(body) != string(want.Body)+"and more" {
			t.Error("two results are in one memory, or the argument has changed")
		}
		scrawl(first, '?')
		if !sameRequest(r, want) || !bytes.Equal(second, encodedRequest(want)) {
			t.Errorf("%+v, %x: a result is in other memory", r, second)
		}
	}
}

func TestNoRequest(t *testing.T) { // R1, R2, R4
	if b, e := wire.EncodeRequest(wire.Request{}); len(b) != 0 || e != api.ErrArg {
		t.Errorf("EncodeRequest of a zero request: %x, %d", b, e)
	}
	for _, b := range [][]byte{nil, {}} {
		if r, e := wire.DecodeRequest(b); !sameRequest(r, wire.Request{}) || e != api.ErrForm {
			t.Errorf("DecodeRequest of no bytes: %+v, %d", r, e)
		}
		if x, e := wire.EncodeRequest(wire.Request{Op: 18, Body: b}); len(x) != 39 || e != api.OK {
			t.Errorf("EncodeRequest with no body: %x, %d", x, e)
		}
	}
	full := wire.Request{Op: 0, Repo: "a", Word: "b", Digest: some(1), Id: 1, At: 2, N: 3, Body: []byte("x")}
	if r, e := wire.DecodeRequest(encodedRequest(full)); !sameRequest(r, wire.Request{}) || e != api.ErrForm {
		t.Errorf("DecodeRequest with a wrong operation: %+v, %d", r, e)
	}
}
