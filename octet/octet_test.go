package octet_test

import (
	"bytes"
	"encoding/binary"
	"hash/crc32"
	"math"
	"math/bits"
	"strings"
	"testing"

	"hallmark/api"
	"hallmark/octet"
)

// edges are numbers around each of the places where an encoding gets longer.
func edges() []uint64 {
	l := []uint64{0, 1, 300}
	for i := range 64 {
		n := uint64(1) << i
		l = append(l, n-1, n, n+1)
	}
	return append(l, math.MaxUint64-1, math.MaxUint64)
}

// spare is b with room behind its end that is not to be touched.
func spare(b []byte) []byte {
	l := append(bytes.Clone(b), "spare"...)
	return l[:len(b)]
}

// untouched says whether b, from spare, is still p with its room as it was.
func untouched(b, p []byte) bool {
	return bytes.Equal(b[:len(p)+5], append(bytes.Clone(p), "spare"...))
}

func TestRot(t *testing.T) { // P1.1
	steps := []int{math.MinInt, math.MinInt + 1, math.MaxInt, math.MaxInt - 1, 1 << 40, -1 << 40}
	for n := -100; n <= 100; n++ {
		steps = append(steps, n)
	}
	for _, x := range []uint32{0, 1, 0x80000000, 0x12345678, math.MaxUint32} {
		for _, n := range steps {
			turn := (n%32 + 32) % 32
			if got, want := octet.Rot(x, n), bits.RotateLeft32(x, -turn); got != want {
				t.Errorf("Rot(%x, %d) = %x, not %x", x, n, got, want)
			}
		}
	}
	if octet.Rot(1, 1) != 0x80000000 || octet.Rot(1, -33) != 2 {
		t.Error("the example's rotations")
	}
}

func TestPut(t *testing.T) { // P1.1
	for _, n := range edges() {
		whole := binary.BigEndian.AppendUint64(nil, n)
		for size := 0; size <= 8; size++ {
			if got := octet.Put(n, size); !bytes.Equal(got, whole[8-size:]) {
				t.Errorf("Put(%d, %d) = %x", n, size, got)
			}
		}
		for _, size := range []int{-1, 9, 16, 64, math.MinInt, math.MaxInt} {
			if got := octet.Put(n, size); len(got) != 0 {
				t.Errorf("Put(%d, %d) = %x, not empty", n, size, got)
			}
		}
	}
	if !bytes.Equal(octet.Put(258, 3), []byte{0, 1, 2}) {
		t.Error("Put(258, 3)")
	}
}

func TestGet(t *testing.T) { // P1.1
	for _, n := range edges() {
		for size := 0; size <= 8; size++ {
			want := n
			if size < 8 {
				want = n % (1 << (8 * size))
			}
			if got, ok := octet.Get(octet.Put(n, size)); got != want || !ok {
				t.Errorf("Get of %d in %d bytes = %d, %t", n, size, got, ok)
			}
		}
	}
	if n, ok := octet.Get(nil); n != 0 || !ok {
		t.Errorf("Get(nil) = %d, %t", n, ok)
	}
	for _, b := range [][]byte{make([]byte, 9), bytes.Repeat([]byte{255}, 9), append(make([]byte, 8), 1), make([]byte, 100)} {
		if n, ok := octet.Get(b); n != 0 || ok {
			t.Errorf("Get(%x) = %d, %t", b, n, ok)
		}
	}
}

func TestWord(t *testing.T) { // P1.1
	b := []byte{0, 0, 1, 2, 3, 0xfe, 0xff}
	for at := 0; at+4 <= len(b); at++ {
		if got, ok := octet.Word(b, at); got != binary.BigEndian.Uint32(b[at:]) || !ok {
			t.Errorf("Word at %d = %x, %t", at, got, ok)
		}
	}
	for _, at := range []int{-1, -4, 4, 5, 6, 7, 8, math.MinInt, math.MaxInt, math.MaxInt - 3} {
		if got, ok := octet.Word(b, at); got != 0 || ok {
			t.Errorf("Word at %d = %x, %t", at, got, ok)
		}
	}
	for n := range 4 {
		for _, at := range []int{-1, 0, 1} {
			// There are four bytes in the array, but not in the slice.
			if got, ok := octet.Word(b[3:3+n], at); got != 0 || ok {
				t.Errorf("Word of %d bytes at %d = %x, %t", n, at, got, ok)
			}
		}
	}
	if _, ok := octet.Word(nil, 0); ok {
		t.Error("Word(nil, 0)")
	}
	if got, ok := octet.Word([]byte{0, 0, 1, 2, 3}, 1); got != 1*65536+2*256+3 || !ok {
		t.Error("the example's word at 1")
	}
	if _, ok := octet.Word([]byte{0, 0, 1, 2, 3}, 2); ok {
		t.Error("the example's word at 2")
	}
}

func TestCount(t *testing.T) { // P1.2
	for _, n := range edges() {
		want := binary.AppendUvarint(nil, n)
		if got := octet.Count(n); !bytes.Equal(got, want) {
			t.Errorf("Count(%d) = %x, not %x", n, got, want)
		}
	}
	if !bytes.Equal(octet.Count(300), []byte{0xac, 2}) || !bytes.Equal(octet.Count(0), []byte{0}) {
		t.Error("Count of 300 or of 0")
	}
}

func TestReadCount(t *testing.T) { // P1.2
	for _, n := range edges() {
		c := octet.Count(n)
		for _, more := range []string{"", "\x00", "\x01", "\x80", "\xff\xff\xff\xff\xff\xff\xff\xff\xff\xff\xff"} {
			b := append(bytes.Clone(c), more...)
			if got, used, e := octet.ReadCount(b); got != n || used != len(c) || e != api.OK {
				t.Errorf("ReadCount(%x) = %d, %d, %d", b, got, used, e)
			}
		}
		for i := range c {
			if got, used, e := octet.ReadCount(c[:i]); got != 0 || used != 0 || e != api.ErrShort {
				t.Errorf("ReadCount(%x) = %d, %d, %d", c[:i], got, used, e)
			}
		}
	}
}

func TestReadCountErrors(t *testing.T) { // P1.2
	low, high := strings.Repeat("\x80", 9), strings.Repeat("\xff", 9)
	cases := []struct {
		b string
		e api.Errno
	}{
		{"", api.ErrShort}, {"\x80", api.ErrShort}, {"\xff", api.ErrShort}, {low, api.ErrShort}, {high, api.ErrShort},
		{"\x80\x00", api.ErrForm}, {"\x80\x80\x00", api.ErrForm}, {"\xff\x00\x01", api.ErrForm},
		{low + "\x00", api.ErrForm}, {high + "\x00", api.ErrForm},
		{low + "\x02", api.ErrForm}, {high + "\x02", api.ErrForm}, {high + "\x7f", api.ErrForm},
		{low + "\x80", api.ErrForm}, {low + "\x81", api.ErrForm}, {high + "\xff", api.ErrForm},
		{low + "\x80\x00", api.ErrForm}, {low + "\x81\x01", api.ErrForm}, {high + high, api.ErrForm},
	}
	for _, c := range cases {
		if n, used, e := octet.ReadCount([]byte(c.b)); n != 0 || used != 0 || e != c.e {
			t.Errorf("ReadCount(%x) = %d, %d, %d, not the error %d", c.b, n, used, e, c.e)
		}
	}
	if n, used, e := octet.ReadCount([]byte(low + "\x01")); n != 1<<63 || used != 10 || e != api.OK {
		t.Errorf("ReadCount of 2^63 = %d, %d, %d", n, used, e)
	}
}

// All strings of two bytes, and of three from the bytes that matter, against the words of the promise.
func TestReadCountExhaustive(t *testing.T) { // P1.2
	check := func(b []byte) {
		n, used, e := octet.ReadCount(b)
		switch {
		case e == api.OK && !bytes.Equal(octet.Count(n), b[:used]):
			t.Errorf("ReadCount(%x) = %d, %d, whose Count is %x", b, n, used, octet.Count(n))
		case e == api.ErrShort && (n != 0 || used != 0 || bytes.ContainsFunc(b, func(r rune) bool { return r < 0x80 })):
			t.Errorf("ReadCount(%x) = %d, %d, ErrShort", b, n, used)
		case e == api.ErrForm && (n != 0 || used != 0 || bytes.IndexByte(b, 0) < 1):
			t.Errorf("ReadCount(%x) = %d, %d, ErrForm", b, n, used)
		case e != api.OK && e != api.ErrShort && e != api.ErrForm:
			t.Errorf("ReadCount(%x): error %d", b, e)
		}
	}
	for i := range 256 * 256 {
		check([]byte{byte(i >> 8), byte(i)})
	}
	few := []byte{0, 1, 2, 0x7f, 0x80, 0x81, 0xff}
	for _, x := range few {
		for _, y := range few {
			for _, z := range few {
				check([]byte{x, y, z})
			}
		}
	}
}

func TestText(t *testing.T) { // P1.3
	for _, n := range []int{0, 1, 2, 127, 128, 129, 16383, 16384, 70000} {
		p := bytes.Repeat([]byte{'x'}, n)
		arg := spare(p)
		got := octet.Text(arg)
		if want := append(octet.Count(uint64(n)), p...); !bytes.Equal(got, want) {
			t.Errorf("Text of %d bytes begins with %x", n, got[:min(4, len(got))])
		}
		for i := range got[:cap(got)] {
			got[:cap(got)][i] = 'y'
		}
		if !untouched(arg, p) {
			t.Errorf("Text of %d bytes shares memory with them", n)
		}
	}
	if !bytes.Equal(octet.Text(nil), []byte{0}) {
		t.Error("Text(nil)")
	}
}

func TestReadText(t *testing.T) { // P1.3
	for _, n := range []int{0, 1, 127, 128, 129, 16384, 70000} {
		p := bytes.Repeat([]byte{'x'}, n)
		text := octet.Text(p)
		for _, most := range []int{n, n + 1, math.MaxInt} {
			for _, more := range []string{"", "z", "\x80"} {
				b := append(bytes.Clone(text), more...)
				if got, used, e := octet.ReadText(b, most); !bytes.Equal(got, p) || used != len(text) || e != api.OK {
					t.Errorf("ReadText of %d bytes with most %d: %d, %d", n, most, used, e)
				}
			}
		}
		for _, most := range []int{n - 1, -1, math.MinInt} {
			if got, used, e := octet.ReadText(text, most); len(got) != 0 || used != 0 || e != api.ErrLimit {
				t.Errorf("ReadText of %d bytes with most %d: %d bytes, %d, %d", n, most, len(got), used, e)
			}
		}
	}
	if got, used, e := octet.ReadText([]byte("\x02abc"), 2); string(got) != "ab" || used != 3 || e != api.OK {
		t.Errorf("the example: %q, %d, %d", got, used, e)
	}
}

func TestReadTextErrors(t *testing.T) { // P1.3
	huge, most := octet.Count(math.MaxUint64), octet.Count(math.MaxInt)
	cases := []struct {
		b    []byte
		most int
		e    api.Errno
	}{
		{nil, 10, api.ErrShort}, {nil, -1, api.ErrShort}, {[]byte{0x80}, -1, api.ErrShort},
		{[]byte{0x80, 0}, 10, api.ErrForm}, {[]byte{0x80, 0}, -1, api.ErrForm},
		{[]byte{2, 'a', 'b', 'c'}, 1, api.ErrLimit}, {[]byte{2}, 1, api.ErrLimit}, {[]byte{0}, -1, api.ErrLimit},
		{[]byte{2}, 2, api.ErrShort}, {[]byte{2, 'a'}, 2, api.ErrShort}, {[]byte{1}, math.MaxInt, api.ErrShort},
		{huge, math.MaxInt, api.ErrLimit}, {append(huge, "abc"...), 3, api.ErrLimit},
		{most, math.MaxInt, api.ErrShort}, {append(most, "abc"...), math.MaxInt, api.ErrShort},
		{most, math.MaxInt - 1, api.ErrLimit},
		{octet.Count(1 << 63), math.MinInt, api.ErrLimit}, {octet.Count(1 << 63), math.MaxInt, api.ErrLimit},
	}
	for _, c := range cases {
		if got, used, e := octet.ReadText(c.b, c.most); len(got) != 0 || used != 0 || e != c.e {
			t.Errorf("ReadText(%x, %d) = %x, %d, %d, not the error %d", c.b, c.most, got, used, e, c.e)
		}
	}
}

func TestReadTextIsNewMemory(t *testing.T) { // P1.3, R3
	whole := []byte("\x02abcdefghijklmnopqrstuvwxyz")
	b := bytes.Clone(whole)
	got, _, _ := octet.ReadText(b, 2)
	for i := range got[:cap(got)] {
		got[:cap(got)][i] = '!'
	}
	if !bytes.Equal(b, whole) {
		t.Errorf("ReadText's result shares memory with its argument: %q", b)
	}
}

func TestHex(t *testing.T) { // P1.4
	const digits = "0123456789abcdef"
	var all []byte
	var want strings.Builder
	for i := range 256 {
		all = append(all, byte(i))
		want.WriteByte(digits[i/16])
		want.WriteByte(digits[i%16])
	}
	if got := octet.Hex(all); got != want.String() {
		t.Errorf("Hex of all bytes = %s", got)
	}
	if got, e := octet.Unhex(want.String()); !bytes.Equal(got, all) || e != api.OK {
		t.Errorf("Unhex of all bytes = %x, %d", got, e)
	}
	if octet.Hex(nil) != "" || octet.Hex([]byte{0, 255}) != "00ff" {
		t.Error("Hex of no bytes, or of 0 255")
	}
	if got, e := octet.Unhex(""); len(got) != 0 || e != api.OK {
		t.Errorf("Unhex of nothing = %x, %d", got, e)
	}
}

func TestUnhexErrors(t *testing.T) { // P1.4
	for i := range 256 {
		c := string([]byte{byte(i)})
		ok := strings.Contains("0123456789abcdef", c)
		for _, s := range []string{c + "0", "0" + c, "00" + c + "000", "00f" + c} {
			got, e := octet.Unhex(s)
			if ok && (e != api.OK || octet.Hex(got) != s) {
				t.Errorf("Unhex(%q) = %x, %d", s, got, e)
			}
			if !ok && (e != api.ErrForm || len(got) != 0) {
				t.Errorf("Unhex(%q) = %x, %d, not ErrForm", s, got, e)
			}
		}
	}
	for _, s := range []string{"0", "0A", "FF", "000", "0x00", " 00", "00 ", "00\n", "é", "€0"} {
		if got, e := octet.Unhex(s); len(got) != 0 || e != api.ErrForm {
			t.Errorf("Unhex(%q) = %x, %d, not ErrForm", s, got, e)
		}
	}
}

// some are n bytes that follow a short rule.
func some(n int) []byte {
	b := make([]byte, n)
	x := uint32(1)
	for i := range b {
		x = x*1664525 + 1013904223
		b[i] = byte(x >> 24)
	}
	return b
}

func TestCrc(t *testing.T) { // P1.5
	if got := octet.Crc([]byte("123456789")); got != 0xcbf43926 {
		t.Errorf("Crc of 123456789 = %x", got)
	}
	if got := octet.Crc(nil); got != 0 {
		t.Errorf("Crc of no bytes = %x", got)
	}
	for n := range 300 {
		for _, p := range [][]byte{some(n), make([]byte, n), bytes.Repeat([]byte{255}, n)} {
			if got, want := octet.Crc(p), crc32.ChecksumIEEE(p); got != want {
				t.Errorf("Crc(%x) = %x, not %x", p, got, want)
			}
		}
	}
}

func TestCrcTellsBitsApart(t *testing.T) { // P1.5
	p := some(40)
	sum := octet.Crc(p)
	for at := range 8 * len(p) {
		for _, flips := range []uint32{1, 3, 0x80000001, 0xdeadbeef, math.MaxUint32} {
			q := bytes.Clone(p)
			changed := false
			for i := range 32 {
				if bit := at + i; flips>>i&1 == 1 && bit < 8*len(q) {
					q[bit/8] ^= 1 << (bit % 8)
					changed = true
				}
			}
			if changed && octet.Crc(q) == sum {
				t.Errorf("Crc is the same with the bits %x from %d on changed", flips, at)
			}
		}
	}
}

func TestArgumentsStay(t *testing.T) { // R3
	p := []byte("\x03abc")
	b := spare(p)
	octet.Get(b)
	octet.Word(b, 0)
	octet.ReadCount(b)
	octet.ReadText(b, 3)
	octet.Hex(b)
	octet.Crc(b)
	if !untouched(b, p) {
		t.Errorf("an argument was changed: %q", b[:cap(b)])
	}
}
