package record_test

import (
	"bytes"
	"encoding/binary"
	"math"
	"slices"
	"strings"
	"testing"
	"unsafe"

	"hallmark/api"
	"hallmark/record"
)

const mostLog = 1 << 20

// headEncodes reports it unless RightHead and EncodeHead answer as the oracle does, and DecodeHead what was encoded.
func headEncodes(t *testing.T, h record.Head) {
	t.Helper()
	want := rightHead(h)
	if ok := record.RightHead(h); ok != want {
		t.Errorf("RightHead(%+v) = %v", h, ok)
	}
	b, e := record.EncodeHead(h)
	if !want {
		if e != api.ErrArg || len(b) != 0 {
			t.Errorf("EncodeHead(%+v) = %x, %d, not ErrArg", h, b, e)
		}
		return
	}
	if e != api.OK || !bytes.Equal(b, encodedHead(h)) {
		t.Errorf("EncodeHead(%+v) = %x, %d, not %x", h, b, e, encodedHead(h))
	}
	if x, e := record.DecodeHead(b); x != h || e != api.OK {
		t.Errorf("DecodeHead of EncodeHead(%+v) = %+v, %d", h, x, e)
	}
}

// headDecodes reports it unless DecodeHead answers as the oracle does, and EncodeHead what was decoded.
func headDecodes(t *testing.T, b []byte) (accepted bool) {
	t.Helper()
	want, ok := decodedHead(b)
	h, e := record.DecodeHead(b)
	if h != want || ok != (e == api.OK) || !ok && e != api.ErrForm {
		t.Errorf("DecodeHead(%x) = %+v, %d, not %+v, %v", b, h, e, want, ok)
	}
	if again, e := record.EncodeHead(h); ok && (e != api.OK || !bytes.Equal(again, b)) {
		t.Errorf("EncodeHead of DecodeHead(%x) = %x, %d", b, again, e)
	}
	return ok
}

// heads are heads that nothing is wrong with.
func heads() []record.Head {
	var l []record.Head
	for _, size := range []int{0, 1, 2, 255, 256, 65536, mostLog - 1, mostLog} {
		for _, time := range []int{0, 1, 2, 255, 256, 1 << 32, mostTime - 1, mostTime} {
			for _, root := range []api.Digest{{}, {31: 1}, {0: 1}, {0: 7}, some(0), some(1)} {
				l = append(l, record.Head{Size: size, Root: root, Time: time})
			}
		}
	}
	return l
}

func TestEncodeHeadBytes(t *testing.T) { // P14.1
	var root api.Digest
	for i := range root {
		root[i] = byte(0xa0 + i)
	}
	for _, x := range []struct {
		h    record.Head
		want string
	}{
		{record.Head{}, "\x07" + strings.Repeat("\x00", 48)},
		{record.Head{Size: 0x010203, Root: root, Time: 0x0102030405}, "\x07\x00\x00\x00\x00\x00\x01\x02\x03" + string(root[:]) + "\x00\x00\x00\x01\x02\x03\x04\x05"},
		{record.Head{Size: mostLog, Root: root, Time: mostTime}, "\x07\x00\x00\x00\x00\x00\x10\x00\x00" + string(root[:]) + "\x00\x00\x01\x00\x00\x00\x00\x00"},
	} {
		if b, e := record.EncodeHead(x.h); string(b) != x.want || e != api.OK {
			t.Errorf("EncodeHead(%+v) = %x, %d", x.h, b, e)
		}
		if h, e := record.DecodeHead([]byte(x.want)); h != x.h || e != api.OK {
			t.Errorf("DecodeHead(%x) = %+v, %d", x.want, h, e)
		}
	}
}

func TestHeads(t *testing.T) { // P14.1
	for _, h := range heads() {
		headEncodes(t, h)
		if !headDecodes(t, encodedHead(h)) {
			t.Errorf("%+v is not accepted", h)
		}
	}
}

func TestHeadNumbers(t *testing.T) { // P14.1: any number, also one of more than 63 bits
	sizes := append(times(), mostLog-1, mostLog, mostLog+1, mostLog+255, 2*mostLog, 1<<24, 1<<32+1)
	for _, size := range sizes {
		for _, time := range times() {
			h := record.Head{Size: size, Root: some(2), Time: time}
			headEncodes(t, h)
			headDecodes(t, encodedHead(h))
		}
	}
	for _, n := range []uint64{0, 1, mostLog, mostTime, 1 << 62, math.MaxInt64, 1 << 63, 1<<63 + 1, 1<<63 + mostLog, math.MaxUint64 - 1, math.MaxUint64} {
		b := encodedHead(record.Head{})
		binary.BigEndian.PutUint64(b[1:], n)
		headDecodes(t, b)
		b = encodedHead(record.Head{})
		binary.BigEndian.PutUint64(b[41:], n)
		headDecodes(t, b)
		for _, r := range both("a", "b", 0) {
			b := encoded(r)
			binary.BigEndian.PutUint64(b[len(b)-8:], n)
			decodes(t, b)
		}
	}
}

func TestDecodeHeadAltered(t *testing.T) { // P14.1: at each place, each byte
	for _, h := range []record.Head{{}, {Size: 1, Root: some(3), Time: 1}, {Size: mostLog, Root: some(4), Time: mostTime}, {Size: 0x0f0e0d, Root: some(5), Time: 0x0908070605}} {
		b := encodedHead(h)
		for i := range len(b) + 1 {
			headDecodes(t, b[:i])
			headDecodes(t, b[i:])
			headDecodes(t, slices.Concat(b[:i], b))
			for c := range 256 {
				headDecodes(t, slices.Insert(slices.Clone(b), i, byte(c)))
			}
		}
		for i := range b {
			headDecodes(t, slices.Delete(slices.Clone(b), i, i+1))
			for c := range 256 {
				x := slices.Clone(b)
				x[i] = byte(c)
				headDecodes(t, x)
			}
		}
	}
}

func TestDecodeHeadLengths(t *testing.T) { // P14.1
	for n := range 200 {
		b := make([]byte, n)
		if n > 0 {
			b[0] = 7
		}
		if ok := headDecodes(t, b); ok != (n == 49) {
			t.Errorf("%d bytes: %v", n, ok)
		}
	}
}

func TestHeadsDiffer(t *testing.T) { // P14.2: no two heads have one encoding
	seen := map[string]record.Head{}
	for _, h := range heads() {
		b, e := record.EncodeHead(h)
		if other, ok := seen[string(b)]; ok || e != api.OK {
			t.Fatalf("%+v is encoded like %+v: %x, %d", h, other, b, e)
		}
		seen[string(b)] = h
	}
}

func TestHeadsKeepNothing(t *testing.T) { // R3
	want := record.Head{Size: 5, Root: some(6), Time: 7}
	b := append(encodedHead(want), "and more"...)
	h, e := record.DecodeHead(b[:49])
	if h != want || e != api.OK || string(b) != string(encodedHead(want))+"and more" {
		t.Errorf("DecodeHead: %+v, %d; the argument is %x", h, e, b)
	}
	first, _ := record.EncodeHead(h)
	second, _ := record.EncodeHead(h)
	if unsafe.SliceData(first) == unsafe.SliceData(second) {
		t.Error("two results are in one memory")
	}
	first = first[:cap(first)]
	for i := range first {
		first[i] = '?'
	}
	if !bytes.Equal(second, encodedHead(want)) {
		t.Errorf("%x: a result is in other memory", second)
	}
}
