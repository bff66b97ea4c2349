package table_test

import (
	"bytes"
	"math/rand"
	"slices"
	"strings"
	"testing"

	"hallmark/api"
	"hallmark/table"
)

const (
	mostKey    = 320
	mostValue  = 1 << 18
	mostRecord = 1<<20 - 8
)

// encodes reports it unless Encode answers as the oracle does, and Decode what was encoded.
func encodes(t *testing.T, l ...table.Change) {
	t.Helper()
	want := refusal(l)
	b, e := table.Encode(l)
	if e != want || e != api.OK && len(b) != 0 {
		t.Errorf("Encode of %s: %d bytes, %d, not %d", brief(l), len(b), e, want)
	}
	if want != api.OK {
		return
	}
	if !bytes.Equal(b, record(l...)) {
		t.Errorf("Encode of %s: %d bytes, %.60x, not %.60x", brief(l), len(b), b, record(l...))
	}
	decodes(t, b)
}

// decodes reports it unless Decode answers as the oracle does.
func decodes(t *testing.T, b []byte) {
	t.Helper()
	want, ok := changes(b)
	l, e := table.Decode(b)
	if ok && (e != api.OK || !same(l, want)) {
		t.Errorf("Decode of %d bytes, %.60x: %s, %d, not %s", len(b), b, brief(l), e, brief(want))
	}
	if !ok && (e != api.ErrForm || len(l) != 0) {
		t.Errorf("Decode of %d bytes, %.60x: %s, %d, not ErrForm", len(b), b, brief(l), e)
	}
}

func TestEncodeBytes(t *testing.T) { // P11.1
	for _, x := range []struct {
		l    []table.Change
		want string
	}{
		{nil, "\x00"},
		{[]table.Change{}, "\x00"},
		{[]table.Change{set("a", "1")}, "\x01\x01\x01a\x011"},
		{[]table.Change{set("a", "")}, "\x01\x01\x01a\x00"},
		{[]table.Change{{Key: "a"}}, "\x01\x01\x01a\x00"},
		{[]table.Change{gone("a")}, "\x01\x00\x01a"},
		{[]table.Change{{Key: "a", Gone: true, Value: []byte("not told")}}, "\x01\x00\x01a"},
		{[]table.Change{set("b", "xy"), gone("\x00\xff"), set("a", "z")}, "\x03\x01\x01b\x02xy\x00\x02\x00\xff\x01\x01a\x01z"},
		{[]table.Change{set("a", "1"), set("a", "2"), gone("a")}, "\x03\x01\x01a\x011\x01\x01a\x012\x00\x01a"},
	} {
		b, e := table.Encode(x.l)
		if string(b) != x.want || e != api.OK {
			t.Errorf("Encode of %s: %q, %d", brief(x.l), b, e)
		}
		encodes(t, x.l...)
	}
}

func TestEncodeOfLongTexts(t *testing.T) { // P11.1: at each limit, and where a Count becomes longer
	for _, n := range []int{0, 1, 2, 126, 127, 128, 129, 255, 256, mostKey - 1, mostKey, mostKey + 1, 1000, 1 << 21} {
		key := strings.Repeat("k", n)
		encodes(t, set(key, "v"))
		encodes(t, gone(key))
		encodes(t, set("a", "v"), gone(key), set("b", ""))
	}
	for _, n := range []int{0, 1, 127, 128, 1<<14 - 1, 1 << 14, mostValue - 1, mostValue, mostValue + 1, 1 << 21} {
		value := strings.Repeat("v", n)
		encodes(t, set("k", value))
		encodes(t, table.Change{Key: "k", Gone: true, Value: []byte(value)})
		encodes(t, gone("a"), set(strings.Repeat("k", mostKey), value), set("b", ""))
	}
}

func TestEncodeOfManyChanges(t *testing.T) { // P11.1
	for _, n := range []int{1, 2, 126, 127, 128, 129, 255, 256, 257, 300, 5000} {
		encodes(t, slices.Repeat([]table.Change{set("a", "1")}, n)...)
		encodes(t, slices.Repeat([]table.Change{gone("a")}, n)...)
		// That there are too many is told ahead of what is wrong with one of them.
		encodes(t, slices.Repeat([]table.Change{gone("")}, n)...)
	}
}

// filling are changes whose record has so many bytes more than the longest one.
func filling(more int) []table.Change {
	v := strings.Repeat("v", mostValue)
	l := []table.Change{set("a", v), set("b", v), set("c", v), set("d", v[:mostValue/2]), set("e", "")}
	// The last value's Count has three bytes, and that of none has one.
	return append(l[:4], set("e", v[:mostRecord+more-len(record(l...))-2]))
}

func TestEncodeOfLongRecords(t *testing.T) { // P11.1
	for more := -3; more <= 3; more++ {
		l := filling(more)
		if n := len(record(l...)); n != mostRecord+more {
			t.Fatalf("%d bytes, not %d", n, mostRecord+more)
		}
		want := api.OK
		if more > 0 {
			want = api.ErrLimit
		}
		if _, e := table.Encode(l); e != want {
			t.Errorf("Encode of %d bytes: %d, not %d", mostRecord+more, e, want)
		}
		encodes(t, l...)
		encodes(t, append(slices.Clip(l), gone("a"))...)
		// The first fault is told: the record is too long ahead of the change behind, but not ahead of the change itself.
		encodes(t, append(slices.Clip(l), gone(""))...)
		encodes(t, append(slices.Clip(l), set("e", strings.Repeat("v", mostValue+1)))...)
		encodes(t, append([]table.Change{gone("")}, l...)...)
		encodes(t, append(slices.Clip(l), set("e", strings.Repeat("v", mostValue)), gone(""))...)
		// The values of keys that go don't count.
		for i := range l {
			m := slices.Clone(l)
			m[i].Gone = true
			encodes(t, append(m, gone("e"))...)
			encodes(t, append(m, gone(""))...)
		}
	}
	v := strings.Repeat("v", mostValue)
	encodes(t, slices.Repeat([]table.Change{set("a", v)}, 256)...)
	encodes(t, slices.Repeat([]table.Change{{Key: "a", Gone: true, Value: []byte(v)}}, 256)...)
	// The Count of 128 changes and more has two bytes, also while there is room for all of them.
	many := slices.Repeat([]table.Change{gone("a")}, 124)
	for more := -4; more <= 4; more++ {
		l := append(filling(more-3*124), many...)
		encodes(t, l...)
		encodes(t, append(l, gone(""))...)
		encodes(t, append(l, set("", ""))...)
	}
}

func TestEncodeOfWrongChanges(t *testing.T) { // P11.1: at each place
	good := []table.Change{set("a", "1"), gone("b"), set("c", "")}
	long := strings.Repeat("x", mostValue+1)
	for _, bad := range []table.Change{{}, gone(""), set("", "v"), set(long[:mostKey+1], ""), gone(long[:mostKey+1]), set("k", long), {Key: "k", Gone: true, Value: []byte(long)}, set("", long), set(long, long)} {
		for i := range len(good) + 1 {
			l := slices.Insert(slices.Clone(good), i, bad)
			if b, e := table.Encode(l); len(b) != 0 || e != api.ErrArg {
				t.Errorf("Encode of %s: %d bytes, %d", brief(l), len(b), e)
			}
		}
	}
}

func TestDecodeOfCutRecords(t *testing.T) { // P11.1: at each place
	b := record(set("a", "1"), gone("bc"), set("d", ""), set(strings.Repeat("k", 130), strings.Repeat("v", 300)), gone("e"))
	for n := range len(b) {
		if l, e := table.Decode(b[:n]); len(l) != 0 || e != api.ErrForm {
			t.Errorf("Decode of %d bytes: %s, %d", n, brief(l), e)
		}
		decodes(t, b[n:])
		decodes(t, slices.Delete(slices.Clone(b), n, n+1))
	}
	for _, tail := range []string{"\x00", "\x01", "\x01\x01a\x011", "\x00\x01a", string(b)} {
		if l, e := table.Decode([]byte(string(b) + tail)); len(l) != 0 || e != api.ErrForm {
			t.Errorf("Decode with %q behind: %s, %d", tail, brief(l), e)
		}
	}
}

func TestDecodeOfAlteredRecords(t *testing.T) { // P11.1: each byte, changed to or preceded by any
	for _, l := range [][]table.Change{nil, {set("a", "1")}, {gone("a")}, {set("a", "1"), gone("bc"), set("d", ""), set("efg", "hij")}, slices.Repeat([]table.Change{gone("k")}, 130)} {
		b := record(l...)
		for at := range min(len(b), 40) {
			for v := range 256 {
				c := slices.Clone(b)
				c[at] = byte(v)
				decodes(t, c)
				decodes(t, slices.Insert(slices.Clone(b), at, byte(v)))
			}
		}
	}
}

func TestDecodeOfShortTexts(t *testing.T) { // P11.1: all texts of the bytes that matter
	all := [][]byte{nil}
	for range 7 {
		var longer [][]byte
		for _, b := range all {
			decodes(t, b)
			for _, c := range []byte{0, 1, 2, 3, 0x80, 'a'} {
				longer = append(longer, append(slices.Clip(b), c))
			}
		}
		all = longer
	}
	for _, b := range all {
		decodes(t, b)
	}
}

func TestDecodeLimits(t *testing.T) { // P11.1
	for _, n := range []int{0, 1, 127, 128, mostKey - 1, mostKey, mostKey + 1, 1000} {
		decodes(t, record(set(strings.Repeat("k", n), "v")))
		decodes(t, record(gone("a"), gone(strings.Repeat("k", n))))
	}
	for _, n := range []int{127, 128, mostValue - 1, mostValue, mostValue + 1, 1 << 21} {
		decodes(t, record(set("k", strings.Repeat("v", n)), gone("a")))
	}
	for _, n := range []int{126, 127, 128, 255, 256, 257, 300, 1 << 14, 1 << 16} {
		decodes(t, record(slices.Repeat([]table.Change{gone("k")}, n)...))
		decodes(t, record(slices.Repeat([]table.Change{set("k", "")}, n)...))
	}
	for _, s := range []string{
		"\x80\x00", "\x81\x00\x00\x01a", "\x81\x80\x00\x00\x01a", "\x01\x00\x81\x00a", "\x01\x01\x01a\x80\x00", "\x01\x01\x01a\x81\x00b", "\x01\x01\x80\x00",
		"\xff\xff\xff\xff\xff\xff\xff\xff\xff\x01", "\xff\xff\xff\xff\xff\xff\xff\xff\xff\x02", "\x80\x80\x80\x80\x10\x00\x01a",
		"\x01\x00\xff\xff\xff\xff\xff\xff\xff\xff\xff\x01a", "\x01\x01\x01a\xff\xff\xff\xff\xff\xff\xff\xff\xff\x01b", "\x01\x01\x01a\xff\xff\xff\xff\xff\xff\xff\xff\x7fb",
	} {
		if l, e := table.Decode([]byte(s)); len(l) != 0 || e != api.ErrForm {
			t.Errorf("Decode of %q: %s, %d", s, brief(l), e)
		}
	}
	// A record that is too long to be encoded can be decoded.
	for _, l := range [][]table.Change{filling(1), filling(99), slices.Repeat([]table.Change{set("k", strings.Repeat("v", mostValue))}, 256)} {
		if m, e := table.Decode(record(l...)); e != api.OK || !same(l, m) {
			t.Errorf("Decode of %s: %s, %d", brief(l), brief(m), e)
		}
	}
}

func TestDecodedGoneHasNoValue(t *testing.T) { // P11.1
	b, e := table.Encode([]table.Change{{Key: "a", Gone: true, Value: []byte("v")}, set("b", "w")})
	must(t, e)
	l, e := table.Decode(b)
	if e != api.OK || len(l) != 2 || !l[0].Gone || len(l[0].Value) != 0 || l[1].Gone || string(l[1].Value) != "w" {
		t.Errorf("Decode: %s, %d", brief(l), e)
	}
}

// randomText is any text of at most so many bytes.
func randomText(r *rand.Rand, most int) string {
	b := make([]byte, r.Intn(most+1))
	for i := range b {
		b[i] = byte(r.Intn(3) * 127)
	}
	return string(b)
}

func TestRandomRecords(t *testing.T) { // P11.1
	r := rand.New(rand.NewSource(110))
	for range 3000 {
		var l []table.Change
		for range r.Intn(20) {
			l = append(l, table.Change{Key: randomText(r, 1+r.Intn(330)), Gone: r.Intn(3) == 0, Value: []byte(randomText(r, r.Intn(300)))})
		}
		encodes(t, l...)
		b := record(l...)
		for range 20 {
			c := slices.Clone(b)
			for range 1 + r.Intn(2) {
				c[r.Intn(len(c))] = byte(r.Intn(256))
			}
			decodes(t, c)
		}
		b = make([]byte, r.Intn(40))
		for i := range b {
			b[i] = byte(r.Intn(4))
		}
		decodes(t, b)
	}
}

func TestRecordsAreNewMemory(t *testing.T) { // R3
	values := []byte("0123456789")
	l := []table.Change{{Key: "a", Value: values[:3]}, {Key: "b", Gone: true, Value: values[3:5]}, {Key: "c", Value: values[5:7]}}
	b, e := table.Encode(l)
	must(t, e)
	again, _ := table.Encode(l)
	spoil(b)
	if string(values) != "0123456789" || !bytes.Equal(again, record(l...)) || l[0].Key != "a" || !l[1].Gone {
		t.Errorf("%q, %q", values, again)
	}
	b = append(record(set("a", "012"), set("b", ""), set("c", "56")), "spare"...)
	p := b[:len(b)-5]
	got, e := table.Decode(p)
	must(t, e)
	for i := range got {
		spoil(got[i].Value)
		for j, c := range got {
			if want := []string{"012", "", "56"}[j]; j > i && string(c.Value) != want {
				t.Errorf("value %d is %q, not %q", j, c.Value, want)
			}
		}
	}
	if !bytes.Equal(p, record(set("a", "012"), set("b", ""), set("c", "56"))) || string(b[len(p):]) != "spare" {
		t.Errorf("%q", b)
	}
	got, e = table.Decode(p)
	must(t, e)
	spoil(b)
	if !same(got, []table.Change{set("a", "012"), set("b", ""), set("c", "56")}) {
		t.Errorf("Decode: %s", brief(got))
	}
}

// spoil writes all over bytes, also over those that they could grow into.
func spoil(b []byte) {
	b = b[:cap(b)]
	for i := range b {
		b[i] = 'x'
	}
}
