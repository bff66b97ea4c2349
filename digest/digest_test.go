package digest_test

import (
	"bytes"
	"crypto/sha256"
	"encoding"
	"encoding/binary"
	"math"
	"strings"
	"testing"

	"hallmark/api"
	"hallmark/digest"
)

const mostBytes = 1<<61 - 1

// some are n bytes that follow a short rule.
func some(n int) []byte {
	b := make([]byte, n)
	x := uint32(7)
	for i := range b {
		x = x*1664525 + 1013904223
		b[i] = byte(x >> 24)
	}
	return b
}

// saved is what Save answers by its words: h, the number, the tail.
func saved(h []byte, n uint64, tail []byte) []byte {
	b := append(bytes.Clone(h), binary.BigEndian.AppendUint64(nil, n)...)
	return append(b, tail...)
}

// other is the state that saved bytes are, in the library's SHA-256, whose own form is a word, h, a whole block, the number.
func other(t *testing.T, b []byte) interface {
	Write([]byte) (int, error)
	Sum([]byte) []byte
} {
	t.Helper()
	h := sha256.New()
	form := append([]byte("sha\x03"), b[:32]...)
	form = append(form, b[40:]...)
	form = append(form, make([]byte, 64-len(b[40:]))...)
	form = append(form, b[32:40]...)
	if err := h.(encoding.BinaryUnmarshaler).UnmarshalBinary(form); err != nil {
		t.Fatal(err)
	}
	return h
}

// writes is a state into which the pieces have been written.
func writes(t *testing.T, pieces ...[]byte) *digest.State {
	t.Helper()
	s := digest.New()
	for _, p := range pieces {
		if e := s.Write(p); e != api.OK {
			t.Fatalf("Write: %d", e)
		}
	}
	return s
}

// again is the state, saved and loaded.
func again(t *testing.T, s *digest.State) *digest.State {
	t.Helper()
	u, e := digest.Load(s.Save())
	if e != api.OK || u == nil {
		t.Fatalf("Load of a Save: %d", e)
	}
	return u
}

func TestSum(t *testing.T) { // P2.1
	for n := range 400 {
		for _, p := range [][]byte{some(n), make([]byte, n), bytes.Repeat([]byte{255}, n)} {
			want := api.Digest(sha256.Sum256(p))
			if got := digest.Sum(p); got != want {
				t.Errorf("Sum of %d bytes = %x, not %x", n, got, want)
			}
			if got := writes(t, p).Sum(); got != want {
				t.Errorf("the state's Sum of %d bytes = %x, not %x", n, got, want)
			}
		}
	}
	big := some(1<<20 + 17)
	if digest.Sum(big) != api.Digest(sha256.Sum256(big)) {
		t.Error("Sum of many bytes")
	}
	if got := digest.Text(digest.Sum(nil)); got != "sha256:e3b0c44298fc1c149afbf4c8996fb92427ae41e4649b934ca495991b7852b855" {
		t.Errorf("Sum of no bytes: %s", got)
	}
	if got := digest.Text(digest.Sum([]byte("abc"))); !strings.HasPrefix(got, "sha256:ba7816bf") || !strings.HasSuffix(got, "f20015ad") {
		t.Errorf("Sum(abc): %s", got)
	}
}

func TestNew(t *testing.T) { // P2.1
	s := digest.New()
	if s == nil || s.Size() != 0 || s.Sum() != digest.Sum(nil) {
		t.Error("New isn't a state of no bytes")
	}
	if e := s.Write(nil); e != api.OK || s.Size() != 0 || s.Sum() != digest.Sum(nil) {
		t.Error("Write of no bytes")
	}
}

func TestSumOfAStateChangesNothing(t *testing.T) { // P2.1
	for n := range 130 {
		s := writes(t, some(n))
		before := s.Save()
		if s.Size() != n || s.Sum() != s.Sum() || s.Size() != n || !bytes.Equal(s.Save(), before) {
			t.Errorf("Sum changes the state of %d bytes", n)
		}
		if e := s.Write([]byte("more")); e != api.OK || s.Sum() != digest.Sum(append(some(n), "more"...)) || s.Size() != n+4 {
			t.Errorf("Write after Sum of %d bytes", n)
		}
	}
}

func TestNilState(t *testing.T) { // P2.1, P2.2, R1
	var s *digest.State
	if e := s.Write([]byte("x")); e != api.ErrNil {
		t.Errorf("Write: %d", e)
	}
	if e := s.Write(nil); e != api.ErrNil {
		t.Errorf("Write of nothing: %d", e)
	}
	if s.Size() != 0 || s.Sum() != (api.Digest{}) || len(s.Save()) != 0 {
		t.Error("Size, Sum or Save of a nil state isn't zero")
	}
}

func TestWriteLimit(t *testing.T) { // P2.1
	h := some(32)
	full := saved(h, mostBytes, some(63))
	for _, room := range []int{0, 1, 10} {
		b := saved(h, mostBytes-uint64(room), some(63-room))
		s, e := digest.Load(b)
		if e != api.OK || s.Size() != mostBytes-room {
			t.Fatalf("Load with room for %d: %d", room, e)
		}
		sum := s.Sum()
		for _, more := range []int{1, 2, 1000} {
			if e := s.Write(make([]byte, room+more)); e != api.ErrLimit {
				t.Errorf("Write of %d bytes with room for %d: %d", room+more, room, e)
			}
			if s.Size() != mostBytes-room || s.Sum() != sum || !bytes.Equal(s.Save(), b) {
				t.Errorf("a refused Write of %d bytes changed the state", room+more)
			}
		}
		if e := s.Write(some(63)[63-room:]); e != api.OK || s.Size() != mostBytes || !bytes.Equal(s.Save(), full) {
			t.Errorf("Write of the last %d bytes: %d", room, e)
		}
		if e := s.Write(nil); e != api.OK {
			t.Errorf("Write of nothing into a full state: %d", e)
		}
		if e := s.Write([]byte{0}); e != api.ErrLimit {
			t.Errorf("Write into a full state: %d", e)
		}
		if got := s.Sum(); !bytes.Equal(got[:], other(t, full).Sum(nil)) {
			t.Errorf("Sum of a full state = %x", got)
		}
	}
}

func TestWriteKeepsNothing(t *testing.T) { // P2.1, R3
	for _, n := range []int{1, 63, 64, 65, 200} {
		p := append(some(n), "spare"...)
		s := writes(t, p[:n])
		if !bytes.Equal(p, append(some(n), "spare"...)) {
			t.Errorf("Write changed the %d bytes", n)
		}
		clear(p)
		if s.Sum() != digest.Sum(some(n)) {
			t.Errorf("Write kept the memory of the %d bytes", n)
		}
	}
}

func TestSave(t *testing.T) { // P2.2
	for n := range 300 {
		p := some(n)
		h := sha256.New()
		h.Write(p)
		form, err := h.(encoding.BinaryMarshaler).MarshalBinary()
		if err != nil {
			t.Fatal(err)
		}
		want := saved(form[4:36], uint64(n), p[n-n%64:])
		if got := writes(t, p).Save(); !bytes.Equal(got, want) {
			t.Errorf("Save of %d bytes = %x, not %x", n, got, want)
		}
	}
	if b := writes(t, []byte("ab")).Save(); len(b) != 42 {
		t.Errorf("Save of ab has %d bytes", len(b))
	}
}

func TestSaveIsNewMemory(t *testing.T) { // P2.2, R3
	s := writes(t, some(100))
	b := s.Save()
	want := bytes.Clone(b)
	clear(b[:cap(b)])
	if !bytes.Equal(s.Save(), want) || s.Sum() != digest.Sum(some(100)) {
		t.Error("Save's result shares memory with the state")
	}
}

func TestLoad(t *testing.T) { // P2.2
	for i, n := range []uint64{0, 1, 55, 56, 63, 64, 65, 127, 1 << 20, 1<<32 + 5, 1 << 53, 1<<61 - 64, mostBytes} {
		b := saved(some(32 + i)[i:], n, some(int(n%64)))
		s, e := digest.Load(b)
		if e != api.OK || s.Size() != int(n) || !bytes.Equal(s.Save(), b) {
			t.Fatalf("Load of %d bytes: %d", n, e)
		}
		o := other(t, b)
		if got := s.Sum(); !bytes.Equal(got[:], o.Sum(nil)) {
			t.Errorf("Sum of a loaded state of %d bytes", n)
		}
		if n == mostBytes {
			continue
		}
		more := some(int(min(150, mostBytes-n)))
		o.Write(more)
		if e := s.Write(more); e != api.OK {
			t.Errorf("Write into a loaded state: %d", e)
		}
		if got := s.Sum(); !bytes.Equal(got[:], o.Sum(nil)) {
			t.Errorf("Sum of a loaded state of %d bytes, continued", n)
		}
	}
}

func TestLoadErrors(t *testing.T) { // P2.2
	fails := func(b []byte, want api.Errno) {
		t.Helper()
		if s, e := digest.Load(b); s != nil || e != want {
			t.Errorf("Load of %d bytes, %x: %v, %d, not %d", len(b), b[min(32, len(b)):], s != nil, e, want)
		}
	}
	fails(nil, api.ErrShort)
	for n := range 40 {
		fails(bytes.Repeat([]byte{255}, n), api.ErrShort)
		fails(make([]byte, n), api.ErrShort)
	}
	for _, n := range []uint64{1 << 61, 1<<61 + 5, 1 << 62, 1 << 63, 1<<63 + 1, math.MaxUint64} {
		fails(saved(some(32), n, some(int(n%64))), api.ErrForm)
	}
	for n := range uint64(130) {
		for tail := range 130 {
			if tail != int(n%64) {
				fails(saved(some(32), n, some(tail)), api.ErrForm)
			}
		}
	}
	fails(saved(some(32), mostBytes, some(62)), api.ErrForm)
	fails(saved(some(32), mostBytes, some(64)), api.ErrForm)
}

func TestLoadKeepsNothing(t *testing.T) { // P2.2, R3
	b := append(writes(t, some(100)).Save(), "spare"...)
	want := bytes.Clone(b)
	s, e := digest.Load(b[:len(b)-5])
	if e != api.OK || !bytes.Equal(b, want) {
		t.Fatalf("Load: %d", e)
	}
	s.Write(some(50))
	if !bytes.Equal(b, want) {
		t.Error("Write into a loaded state changed what it was loaded from")
	}
	clear(b)
	if s.Sum() != digest.Sum(append(some(100), some(50)...)) {
		t.Error("the loaded state keeps the bytes it was loaded from")
	}
}

func TestText(t *testing.T) { // P2.3
	var d api.Digest
	for i := range d {
		d[i] = byte(i * 8)
	}
	const want = "sha256:0008101820283038404850586068707880889098a0a8b0b8c0c8d0d8e0e8f0f8"
	if got := digest.Text(d); got != want {
		t.Errorf("Text = %s", got)
	}
	for i := range 100 {
		d = digest.Sum(some(i))
		if got, e := digest.Parse(digest.Text(d)); got != d || e != api.OK {
			t.Errorf("Parse of the Text of %x = %x, %d", d, got, e)
		}
	}
	if got, e := digest.Parse("sha256:" + strings.Repeat("0", 64)); got != (api.Digest{}) || e != api.OK {
		t.Errorf("Parse of zeros = %x, %d", got, e)
	}
}

func TestParseErrors(t *testing.T) { // P2.3
	text := digest.Text(digest.Sum([]byte("abc")))
	wrong := []string{
		"", "sha256", "sha256:", "sha256:00", text[:len(text)-1], text[:len(text)-2], text + "0", text + "00", text + " ", " " + text,
		text[7:], "SHA256:" + text[7:], "Sha256:" + text[7:], "sha256" + text[7:], "sha512:" + text[7:], "sha256 " + text[7:], "sha256::" + text[8:],
		"sha256:" + strings.Replace(text[7:], "a", "A", 1), "sha256:" + strings.ToUpper(text[7:]),
		strings.Repeat("0", len(text)),
	}
	for i := range text {
		for _, c := range []string{"g", "\x00", "A", "F", "/", "`", "\xff"} {
			wrong = append(wrong, text[:i]+c+text[i+1:])
		}
		wrong = append(wrong, text[:i]+text[i+1:])
	}
	for _, s := range wrong {
		if d, e := digest.Parse(s); d != (api.Digest{}) || e != api.ErrForm {
			t.Errorf("Parse(%q) = %x, %d", s, d, e)
		}
	}
}

func TestCompare(t *testing.T) { // P2.3
	var zero api.Digest
	for i := range zero {
		a, b := zero, zero
		a[i], b[i] = 0x7f, 0x80
		if i+1 < len(a) {
			a[i+1] = 255 // what follows the first difference doesn't count
		}
		if digest.Compare(a, b) != -1 || digest.Compare(b, a) != 1 || digest.Compare(zero, a) != -1 || digest.Compare(b, zero) != 1 {
			t.Errorf("Compare of digests that differ at %d", i)
		}
		if digest.Compare(a, a) != 0 || digest.Compare(b, b) != 0 {
			t.Errorf("Compare of equal digests")
		}
	}
}

func TestPieces(t *testing.T) { // P2.4
	const n = 200
	p := some(n)
	want := digest.Sum(p)
	for i := 0; i <= n; i++ {
		if s := writes(t, p[:i], nil, p[i:]); s.Sum() != want || s.Size() != n {
			t.Errorf("two pieces, divided at %d", i)
		}
		s := again(t, writes(t, p[:i]))
		s.Write(p[i:])
		if s.Sum() != want || s.Size() != n {
			t.Errorf("saved and loaded at %d", i)
		}
	}
	for size := 1; size <= 130; size++ {
		plain, reloaded := digest.New(), digest.New()
		for rest := p; len(rest) > 0; {
			k := min(size, len(rest))
			plain.Write(rest[:k])
			reloaded.Write(rest[:k])
			reloaded = again(t, again(t, reloaded))
			rest = rest[k:]
		}
		if plain.Sum() != want || reloaded.Sum() != want || !bytes.Equal(plain.Save(), reloaded.Save()) {
			t.Errorf("pieces of %d bytes", size)
		}
	}
}

func TestUnevenPieces(t *testing.T) { // P2.4
	p := some(3000)
	want := digest.Sum(p)
	for i := range 100 {
		s := digest.New()
		rest := p
		for _, k := range some(400 + i)[i:] {
			k := min(int(k), len(rest))
			s.Write(rest[:k])
			rest = rest[k:]
			if k%3 == 0 {
				s = again(t, s)
			}
		}
		if len(rest) != 0 || s.Sum() != want {
			t.Errorf("uneven pieces, %d bytes left", len(rest))
		}
	}
}

func TestStatesAreApart(t *testing.T) { // P2.4
	p := some(100)
	a, b := digest.New(), digest.New()
	a.Write(p)
	if b.Size() != 0 || b.Sum() != digest.Sum(nil) {
		t.Error("a Write into one new state is seen in another")
	}
	b.Write(p[:70])
	form := a.Save()
	c, _ := digest.Load(form)
	d, _ := digest.Load(form)
	c.Write([]byte("c"))
	d.Write([]byte("dd"))
	a.Write([]byte("aaa"))
	for _, x := range []struct {
		s *digest.State
		p []byte
	}{{a, append(bytes.Clone(p), "aaa"...)}, {b, p[:70]}, {c, append(bytes.Clone(p), 'c')}, {d, append(bytes.Clone(p), "dd"...)}} {
		if x.s.Sum() != digest.Sum(x.p) || x.s.Size() != len(x.p) {
			t.Errorf("the state of %d bytes was affected by another", len(x.p))
		}
	}
}

func TestExample(t *testing.T) { // P2.1, P2.2
	s := again(t, writes(t, []byte("ab")))
	if e := s.Write([]byte("c")); e != api.OK || s.Sum() != digest.Sum([]byte("abc")) || s.Size() != 3 {
		t.Errorf("ab, Save, Load, c: %d, %x, %d", e, s.Sum(), s.Size())
	}
}

func TestUnmadeStatePanicsNowhere(t *testing.T) { // R1
	s := new(digest.State)
	s.Write(some(100))
	s.Size()
	s.Sum()
	s.Save()
}
