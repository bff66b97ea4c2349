package record_test

import (
	"bytes"
	"math"
	"math/rand"
	"slices"
	"strings"
	"testing"
	"unsafe"

	"hallmark/api"
	"hallmark/record"
)

const mostTime = 1 << 40

// encodes reports it unless Right and Encode answer as the oracle does, and Decode what was encoded.
func encodes(t *testing.T, r record.Record) {
	t.Helper()
	want := right(r)
	if ok := record.Right(r); ok != want {
		t.Errorf("Right(%+v) = %v", r, ok)
	}
	b, e := record.Encode(r)
	if !want {
		if e != api.ErrArg || len(b) != 0 {
			t.Errorf("Encode(%+v) = %x, %d, not ErrArg", r, b, e)
		}
		return
	}
	if e != api.OK || !bytes.Equal(b, encoded(r)) {
		t.Errorf("Encode(%+v) = %x, %d, not %x", r, b, e, encoded(r))
	}
	if x, e := record.Decode(b); x != r || e != api.OK {
		t.Errorf("Decode of Encode(%+v) = %+v, %d", r, x, e)
	}
}

// decodes reports it unless Decode answers as the oracle does, and Encode what was decoded.
func decodes(t *testing.T, b []byte) (accepted bool) {
	t.Helper()
	want, ok := decoded(b)
	r, e := record.Decode(b)
	if r != want || ok != (e == api.OK) || !ok && e != api.ErrForm {
		t.Errorf("Decode(%x) = %+v, %d, not %+v, %v", b, r, e, want, ok)
	}
	if again, e := record.Encode(r); ok && (e != api.OK || !bytes.Equal(again, b)) {
		t.Errorf("Encode of Decode(%x) = %x, %d", b, again, e)
	}
	return ok
}

func put(repo, tag string, time int) record.Record {
	return record.Record{Kind: record.Put, Repo: repo, Tag: tag, Digest: some(len(repo)), Time: time}
}

func deleted(repo, tag string, time int) record.Record {
	return record.Record{Kind: record.Delete, Repo: repo, Tag: tag, Time: time}
}

// both are a record of each kind, with these names and this time.
func both(repo, tag string, time int) []record.Record {
	return []record.Record{put(repo, tag, time), deleted(repo, tag, time)}
}

func TestExamples(t *testing.T) { // P14.1
	r := record.Record{Kind: record.Delete, Repo: "a", Tag: "b", Time: 1}
	want := []byte{2, 1, 97, 1, 98, 0, 0, 0, 0, 0, 0, 0, 1}
	if b, e := record.Encode(r); e != api.OK || !bytes.Equal(b, want) || !record.Right(r) {
		t.Errorf("Encode: %v, %d", b, e)
	}
	if x, e := record.Decode(want); x != r || e != api.OK {
		t.Errorf("Decode: %+v, %d", x, e)
	}
	if b, e := record.EncodeHead(record.Head{}); len(b) != 49 || e != api.OK {
		t.Errorf("EncodeHead: %d bytes, %d", len(b), e)
	}
	if record.Put != 1 || record.Delete != 2 {
		t.Errorf("Put, Delete = %d, %d", record.Put, record.Delete)
	}
}

func TestEncodeBytes(t *testing.T) { // P14.1
	var sum api.Digest
	for i := range sum {
		sum[i] = byte(0xa0 + i)
	}
	for _, x := range []struct {
		r    record.Record
		want string
	}{
		{record.Record{Kind: 1, Repo: "a/b-c", Tag: "V.1", Digest: sum, Time: 0x0102030405}, "\x01\x05a/b-c\x03V.1" + string(sum[:]) + "\x00\x00\x00\x01\x02\x03\x04\x05"},
		{record.Record{Kind: 1, Repo: "a", Tag: "b"}, "\x01\x01a\x01b" + strings.Repeat("\x00", 40)},
		{record.Record{Kind: 2, Repo: "b", Tag: "a", Time: mostTime}, "\x02\x01b\x01a\x00\x00\x01\x00\x00\x00\x00\x00"},
		{record.Record{Kind: 2, Repo: strings.Repeat("r", 128), Tag: strings.Repeat("t", 127)}, "\x02\x80\x01" + strings.Repeat("r", 128) + "\x7f" + strings.Repeat("t", 127) + "\x00\x00\x00\x00\x00\x00\x00\x00"},
	} {
		if b, e := record.Encode(x.r); string(b) != x.want || e != api.OK {
			t.Errorf("Encode(%+v) = %q, %d", x.r, b, e)
		}
		if r, e := record.Decode([]byte(x.want)); r != x.r || e != api.OK {
			t.Errorf("Decode(%q) = %+v, %d", x.want, r, e)
		}
	}
}

// texts are strings of which some are a repository's name or a tag, also at the limits of their lengths.
func texts() []string {
	l := []string{
		"", "a", "b", "0", "_", "-", ".", "/", "A", "a:", "a/b", "a//b", "/a", "a/", "a-", "a--b", "a_b", "a__b", "a___b", "a.b", "a..b", "a.-b",
		"v1", "V1.0-rc_2", ".v", "-v", "_v", "v-", "v.", "ab\n", "a b", "a\x00", "\x80", "ä", "a@b", "latest", "library/alpine",
	}
	for n := 120; n < 136; n++ {
		l = append(l, strings.Repeat("a", n), strings.Repeat("a", n-2)+"/b", strings.Repeat("A", n), strings.Repeat("a", n-1)+"-")
	}
	return append(l, strings.Repeat("a", 1<<14), strings.Repeat("a", 1<<20))
}

func TestNames(t *testing.T) { // P14.1: a repository and a tag of layer 7
	for _, s := range texts() {
		for _, r := range slices.Concat(both(s, "b", 1), both("a", s, 1), both(s, s, 1)) {
			encodes(t, r)
			if len(s) < 1000 {
				decodes(t, encoded(r))
			}
		}
	}
}

func TestKinds(t *testing.T) { // P14.1: a Put has any digest, a Delete has zero bytes
	for _, kind := range []int{math.MinInt, -256, -255, -254, -2, -1, 0, 1, 2, 3, 4, 7, 128, 255, 256, 257, 258, 513, 514, 1 << 32, 1<<32 + 1, 1<<40 + 2, math.MaxInt} {
		r := record.Record{Kind: kind, Repo: "a", Tag: "b", Time: 1}
		encodes(t, r)
		for i := range r.Digest {
			for _, c := range []byte{1, 0x80, 0xff} {
				r.Digest = api.Digest{}
				r.Digest[i] = c
				encodes(t, r)
			}
		}
		r.Digest = some(0)
		encodes(t, r)
	}
	for kind := range 256 {
		for _, tail := range []int{0, 7, 8, 9, 31, 32, 39, 40, 41, 48, 72} {
			b := append([]byte{byte(kind)}, "\x01a\x01b"...)
			decodes(t, append(b, make([]byte, tail)...))
		}
	}
}

// times are numbers of which some are times.
func times() []int {
	return []int{
		math.MinInt, math.MinInt + 1, -mostTime, -257, -256, -2, -1, 0, 1, 2, 255, 256, 1<<32 - 1, 1 << 32,
		mostTime - 1, mostTime, mostTime + 1, mostTime + 255, 2 * mostTime, 1 << 48, 1 << 56, math.MaxInt - 1, math.MaxInt,
	}
}

func TestTimes(t *testing.T) { // P14.1
	for _, time := range times() {
		for _, r := range both("a", "b", time) {
			encodes(t, r)
			decodes(t, encoded(r))
		}
	}
}

func TestEverythingWrong(t *testing.T) { // P14.1
	for _, r := range []record.Record{
		{}, {Kind: 1}, {Kind: 2}, {Repo: "a", Tag: "b"}, {Kind: 1, Repo: "a"}, {Kind: 2, Repo: "a"}, {Kind: 1, Tag: "b"}, {Kind: 2, Tag: "b"},
		{Kind: 3, Repo: "A", Tag: "-", Digest: some(1), Time: -1}, {Kind: 2, Repo: "a", Tag: "b", Digest: some(1), Time: mostTime + 1},
	} {
		encodes(t, r)
		decodes(t, encoded(r))
	}
}

// samples are records of all lengths that matter.
func samples() []record.Record {
	return slices.Concat(
		both("a", "b", 1), both("abc", "def", 0), both("a/b-c", "V_1.2", mostTime), both("ab0/c", "00000000", 1<<32),
		both(strings.Repeat("r", 127), "t", 255), both(strings.Repeat("r", 128), "t", 256), both("r", strings.Repeat("t", 127), 7), both("r", strings.Repeat("t", 128), 8),
	)
}

func TestDecodeAltered(t *testing.T) { // P14.1: at each place, each byte
	for _, r := range samples() {
		b := encoded(r)
		if !decodes(t, b) {
			t.Fatalf("%x is not accepted", b)
		}
		for i := range len(b) + 1 {
			decodes(t, b[:i])
			decodes(t, b[i:])
			decodes(t, slices.Concat(b[:i], b))
			for c := range 256 {
				decodes(t, slices.Insert(slices.Clone(b), i, byte(c)))
			}
		}
		for i := range b {
			decodes(t, slices.Delete(slices.Clone(b), i, i+1))
			for c := range 256 {
				x := slices.Clone(b)
				x[i] = byte(c)
				decodes(t, x)
			}
		}
	}
}

func TestDecodeShort(t *testing.T) { // P14.1: each beginning of few bytes, with what may follow it
	set := []byte{0, 1, 2, 3, 7, 'a', 'B', '-', 0x80, 0x81, 0xff}
	accepted := 0
	var all func(b []byte)
	all = func(b []byte) {
		for _, tail := range []int{0, 8, 40} {
			if decodes(t, append(slices.Clip(b), make([]byte, tail)...)) {
				accepted++
			}
		}
		if len(b) == 5 {
			return
		}
		for _, c := range set {
			all(append(slices.Clip(b), c))
		}
	}
	all(nil)
	// Of the set, a alone is a repository of one byte, and a and B are tags: two records of each kind.
	if accepted != 4 {
		t.Errorf("%d accepted", accepted)
	}
}

func TestDecodeLengths(t *testing.T) { // P14.1: a text's length is written in one way alone, and is told as it is
	tail := strings.Repeat("\x00", 40)
	for _, n := range []string{
		"\x81\x00", "\x80", "\x80\x00", "\x80\x80\x00", "\x81\x80\x00", "\x81\x01", "\xff\x7f", "\xff\xff\xff\xff\x07",
		"\xff\xff\xff\xff\xff\xff\xff\xff\x7f", "\xff\xff\xff\xff\xff\xff\xff\xff\xff\x01", "\xff\xff\xff\xff\xff\xff\xff\xff\xff\x02", "\x81\x80\x80\x80\x80\x80\x80\x80\x80\x00",
		"\x80\x80\x80\x80\x10", "\x81\x80\x80\x80\x10",
	} {
		for kind := range 3 {
			for _, s := range []string{n + "a\x01b", "\x01a" + n + "b", n + "a" + n + "b", n, "\x01a" + n} {
				decodes(t, []byte(string(rune(kind))+s+tail))
				decodes(t, []byte(string(rune(kind))+s+tail[:8]))
				decodes(t, []byte(string(rune(kind))+s))
			}
		}
	}
}

// randomRecord is a record that nothing is wrong with, or not much.
func randomRecord(r *rand.Rand) record.Record {
	repos := []string{"a", "b", "ab", "a/b", "a-b", "r0/r1/r2", strings.Repeat("x", 1+r.Intn(128))}
	tags := []string{"a", "b", "ab", "A", "_", "1.0", "v-1", strings.Repeat("y", 1+r.Intn(128))}
	x := record.Record{Kind: 1 + r.Intn(2), Repo: repos[r.Intn(len(repos))], Tag: tags[r.Intn(len(tags))], Time: r.Intn(mostTime + 1)}
	if r.Intn(3) == 0 {
		x.Time = r.Intn(3)
	}
	if x.Kind == 1 {
		x.Digest = some(r.Intn(5))
	}
	switch r.Intn(20) {
	case 0:
		x.Kind = r.Intn(300) - 20
	case 1:
		x.Time = int(r.Uint64())
	case 2:
		x.Repo += string(rune(r.Intn(300)))
	case 3:
		x.Tag = string(rune(r.Intn(300))) + x.Tag
	case 4:
		x.Digest[r.Intn(32)]++
	}
	return x
}

func TestRandomRecords(t *testing.T) { // P14.1
	r := rand.New(rand.NewSource(141))
	for range 30000 {
		x := randomRecord(r)
		encodes(t, x)
		b := encoded(x)
		decodes(t, b)
		for range 1 + r.Intn(3) {
			b[r.Intn(len(b))] ^= 1 << r.Intn(8)
		}
		decodes(t, b)
	}
}

func TestDecodeNoise(t *testing.T) { // P14.1, R1: any bytes
	r := rand.New(rand.NewSource(142))
	for range 100000 {
		b := make([]byte, r.Intn(70))
		for i := range b {
			b[i] = byte(r.Intn([]int{2, 4, 128, 256}[r.Intn(4)]))
		}
		decodes(t, b)
		headDecodes(t, b)
	}
}

func TestRecordsDiffer(t *testing.T) { // P14.2: no two records have one encoding
	names := []string{"a", "b", "aa", "ab", "ba", "a1a", "1a1", strings.Repeat("a", 97), strings.Repeat("a", 98), strings.Repeat("a", 127), strings.Repeat("a", 128)}
	seen := map[string]record.Record{}
	for _, repo := range names {
		for _, tag := range names {
			for _, time := range []int{0, 1, 97, 256, 1 << 39, mostTime} {
				l := []record.Record{deleted(repo, tag, time), {Kind: 1, Repo: repo, Tag: tag, Time: time}}
				for i := range 5 {
					l = append(l, record.Record{Kind: 1, Repo: repo, Tag: tag, Digest: some(i), Time: time})
				}
				for _, r := range l {
					b, e := record.Encode(r)
					if other, ok := seen[string(b)]; ok || e != api.OK {
						t.Fatalf("%+v is encoded like %+v: %x, %d", r, other, b, e)
					}
					seen[string(b)] = r
				}
			}
		}
	}
	r := rand.New(rand.NewSource(143))
	for range 30000 {
		x := randomRecord(r)
		b, e := record.Encode(x)
		if other, ok := seen[string(b)]; e == api.OK && ok && other != x {
			t.Fatalf("%+v is encoded like %+v: %x", x, other, b)
		}
		if e == api.OK {
			seen[string(b)] = x
		}
	}
}

func TestNoRecordIsAHead(t *testing.T) { // P14.2: also where the lengths are the same
	alike := 0
	for repo := range 128 {
		for tag := range 128 {
			for _, r := range both(strings.Repeat("0", 1+repo), strings.Repeat("7", 1+tag), mostTime) {
				b, e := record.Encode(r)
				if h, f := record.DecodeHead(b); h != (record.Head{}) || f != api.ErrForm || e != api.OK {
					t.Fatalf("%+v is a head: %+v, %d, %d", r, h, f, e)
				}
				if len(b) == 49 {
					alike++
				}
			}
		}
	}
	if alike < 40 {
		t.Errorf("%d records are as long as a head", alike)
	}
	for _, h := range heads() {
		b, e := record.EncodeHead(h)
		if r, f := record.Decode(b); r != (record.Record{}) || f != api.ErrForm || e != api.OK {
			t.Fatalf("%+v is a record: %+v, %d, %d", h, r, f, e)
		}
	}
}

func TestRecordsKeepNothing(t *testing.T) { // R3
	for _, want := range samples() {
		b := append(encoded(want), "and more"...)
		in := b[:len(b)-8]
		r, e := record.Decode(in)
		if r != want || e != api.OK || string(b) != string(encoded(want))+"and more" {
			t.Errorf("Decode: %+v, %d; the argument is %x", r, e, b)
		}
		for i := range b {
			b[i] = '?'
		}
		if r != want {
			t.Errorf("%+v is in the memory of the argument", r)
		}
		first, _ := record.Encode(r)
		second, _ := record.Encode(r)
		if unsafe.SliceData(first) == unsafe.SliceData(second) {
			t.Error("two results are in one memory")
		}
		first = first[:cap(first)]
		for i := range first {
			first[i] = '?'
		}
		if r != want || !bytes.Equal(second, encoded(want)) {
			t.Errorf("%+v, %x: a result is in other memory", r, second)
		}
	}
}
