package journal_test

import (
	"bytes"
	"encoding/binary"
	"math/rand"
	"slices"
	"strings"
	"testing"

	"hallmark/journal"
)

// scans reports it unless b is scanned as the oracle does.
func scans(t *testing.T, b []byte) {
	t.Helper()
	want, wantN := scan(b)
	recs, n := journal.Scan(b)
	if !slices.Equal(texts(recs), want) || n != wantN {
		t.Errorf("Scan of %d bytes, %.60x: %s, %d, not %s, %d", len(b), b, brief(texts(recs)), n, brief(want), wantN)
	}
}

func TestFrame(t *testing.T) { // P10.1
	if f := journal.Frame([]byte("a")); len(f) != 9 || !bytes.Equal(f[:4], []byte{0, 0, 0, 1}) || f[8] != 97 {
		t.Errorf("Frame(a) = %v", f)
	}
	// The checksums were computed by another program.
	for s, want := range map[string]string{
		"":          "\x00\x00\x00\x00\x21\x44\xdf\x1c" + "",
		"a":         "\x00\x00\x00\x01\xe5\x8c\x97\x92" + "a",
		"123456789": "\x00\x00\x00\x09\xde\x9c\x40\xc0" + "123456789",
	} {
		if f := journal.Frame([]byte(s)); string(f) != want {
			t.Errorf("Frame(%q) = %x, not %x", s, f, want)
		}
	}
	r := rand.New(rand.NewSource(10))
	for _, n := range []int{0, 1, 2, 3, 4, 5, 7, 8, 9, 63, 255, 256, 257, 65535, 65536, 70000, 1<<20 - 8, 1 << 20, 1<<20 + 1, 1<<24 + 3} {
		p := make([]byte, n)
		r.Read(p)
		if f := journal.Frame(p); !bytes.Equal(f, frame(p)) {
			t.Errorf("Frame of %d bytes: %d bytes, %.40x", n, len(f), f)
		}
	}
	if f := journal.Frame(nil); !bytes.Equal(f, frame(nil)) {
		t.Errorf("Frame(nil) = %x", f)
	}
}

func TestFrameIsNewMemory(t *testing.T) { // R3
	p := []byte("0123456789abcdef")
	f := journal.Frame(p[:4])
	g := journal.Frame(p[:4])
	f = f[:cap(f)]
	for i := range f {
		f[i] = 'x'
	}
	if string(p) != "0123456789abcdef" || !bytes.Equal(g, frame([]byte("0123"))) {
		t.Errorf("%q, %q", p, g)
	}
}

func TestScan(t *testing.T) { // P10.1
	if recs, n := journal.Scan(append(frame([]byte("a")), 0)); !slices.Equal(texts(recs), []string{"a"}) || n != 9 {
		t.Errorf("Scan: %q, %d", recs, n)
	}
	for _, l := range [][]string{nil, {""}, {"", "", ""}, {"a"}, {"a", "bc", ""}, {"", "def"}, {strings.Repeat("x", 300), "\x00\x00\x00\x00", string(frames("in it"))}, {string(frames("", ""))}} {
		b := frames(l...)
		recs, n := journal.Scan(b)
		if !slices.Equal(texts(recs), l) || n != len(b) {
			t.Errorf("Scan: %s, %d, not %s, %d", brief(texts(recs)), n, brief(l), len(b))
		}
		for _, tail := range []string{"\x00", "\x00\x00\x00\x00", "\x00\x00\x00\x00\x00\x00\x00\x00", "\xff\xff\xff\xff\x00\x00\x00\x00", "\x80\x00\x00\x00\x00\x00\x00\x00", "\x7f\xff\xff\xff........", "abcdefghijklmnop", "\x00\x00\x00\x01\x00\x00\x00\x00a"} {
			recs, n := journal.Scan(append(slices.Clip(b), tail...))
			if !slices.Equal(texts(recs), l) || n != len(b) {
				t.Errorf("Scan with %q behind: %s, %d, not %s, %d", tail, brief(texts(recs)), n, brief(l), len(b))
			}
		}
	}
	if recs, n := journal.Scan(nil); len(recs) != 0 || n != 0 {
		t.Errorf("Scan(nil): %q, %d", recs, n)
	}
}

func TestScanOfCutFrames(t *testing.T) { // P10.1: at each place
	l := []string{"a", "", "0123456789", "xy"}
	b := frames(l...)
	for n := range len(b) + 1 {
		scans(t, b[:n])
		scans(t, b[n:])
		// What stands beyond the length isn't there.
		scans(t, slices.Clip(b[:n]))
	}
}

func TestScanOfAlteredFrames(t *testing.T) { // P10.1: each bit
	l := []string{"a", "", "0123456789", "xy"}
	b := frames(l...)
	ends := []int{0}
	for i := range l {
		ends = append(ends, len(frames(l[:i+1]...)))
	}
	for at := range b {
		i := 0
		for ends[i+1] <= at {
			i++
		}
		for bit := range 8 {
			c := slices.Clone(b)
			c[at] ^= 1 << bit
			if recs, n := journal.Scan(c); !slices.Equal(texts(recs), l[:i]) || n != ends[i] {
				t.Errorf("bit %d of byte %d: %s, %d", bit, at, brief(texts(recs)), n)
			}
		}
		for v := range 256 {
			c := slices.Clone(b)
			c[at] = byte(v)
			scans(t, c)
		}
		c := slices.Clone(b)
		scans(t, slices.Delete(c, at, at+1))
		c = slices.Clone(b)
		scans(t, slices.Insert(c, at, 0))
	}
}

func TestScanOfOtherChecksums(t *testing.T) { // P10.1: the checksum is that of the length and the record
	for _, s := range []string{"a", "", "0123456789"} {
		f := frames(s)
		swapped := slices.Clone(f)
		slices.Reverse(swapped[4:8])
		short := binary.BigEndian.AppendUint32(slices.Clone(f[:4]), binary.BigEndian.Uint32(frame(f[8:])[4:8])+1)
		for _, b := range [][]byte{swapped, append(short, s...)} {
			if recs, n := journal.Scan(b); len(recs) != 0 || n != 0 {
				t.Errorf("Scan(%x): %q, %d", b, recs, n)
			}
		}
	}
}

func TestScanLimit(t *testing.T) { // P10.1
	for _, x := range []struct {
		n  int
		ok bool
	}{{1<<20 - 9, true}, {1<<20 - 8, true}, {1<<20 - 7, true}, {1<<20 - 1, true}, {1 << 20, true}, {1<<20 + 1, false}, {1<<20 + 8, false}, {1 << 21, false}} {
		s := strings.Repeat("r", x.n)
		want := []string{"a"}
		if x.ok {
			want = []string{"a", s, "b"}
		}
		recs, n := journal.Scan(frames("a", s, "b"))
		if !slices.Equal(texts(recs), want) || n != len(frames(want...)) {
			t.Errorf("a record of %d bytes: %s, %d", x.n, brief(texts(recs)), n)
		}
	}
}

func TestScanRandom(t *testing.T) { // P10.1
	r := rand.New(rand.NewSource(101))
	for range 20000 {
		var b []byte
		for range r.Intn(5) {
			p := make([]byte, r.Intn(9))
			r.Read(p)
			switch f := frame(p); r.Intn(6) {
			case 0:
				b = append(b, f[:r.Intn(len(f))]...)
			case 1:
				f[r.Intn(len(f))] = byte(r.Intn(3))
				b = append(b, f...)
			case 2:
				b = append(append(b, 0, 0, 0), p...)
			default:
				b = append(b, f...)
			}
		}
		scans(t, b)
	}
}

func TestScanThenFrame(t *testing.T) { // P10.1: the frames of the records are the bytes that were read
	r := rand.New(rand.NewSource(102))
	for range 2000 {
		b := make([]byte, r.Intn(40))
		for i := range b {
			b[i] = byte(r.Intn(2))
		}
		b = append(frames("x", string(b)), b...)
		recs, n := journal.Scan(b)
		var again []byte
		for _, p := range recs {
			again = append(again, journal.Frame(p)...)
		}
		if !bytes.Equal(again, b[:n]) {
			t.Errorf("%x, not %x", again, b[:n])
		}
	}
}

func TestScanIsNewMemory(t *testing.T) { // R3
	l := []string{"abc", "", "defg", "h"}
	b := append(frames(l...), "tail"...)
	old := slices.Clone(b)
	recs, _ := journal.Scan(b[:len(b)-2])
	for i := range recs {
		all := recs[i][:cap(recs[i])]
		for k := range all {
			all[k] = 'x'
		}
		for k := range recs {
			if k > i && string(recs[k]) != l[k] {
				t.Errorf("the records %d and %d share memory", i, k)
			}
		}
	}
	if !bytes.Equal(b, old) {
		t.Error("the argument is changed")
	}
	recs, _ = journal.Scan(b)
	for i := range b {
		b[i] = 'x'
	}
	if !slices.Equal(texts(recs), l) {
		t.Errorf("the argument is kept: %s", brief(texts(recs)))
	}
}
