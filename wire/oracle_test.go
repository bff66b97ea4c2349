package wire_test

import (
	"bytes"
	"crypto/sha256"
	"encoding/binary"
	"io"
	"math"
	"slices"
	"strconv"
	"testing"

	"hallmark/api"
	"hallmark/wire"
)

// The oracle follows the chapter's definitions with the library's numbers of variable length; it uses nothing of the package that it checks but its types.

const (
	mostTime = 1099511627776
	mostText = 128
	mostBody = 1048576
)

// some is a digest, another one for each i.
func some(i int) api.Digest { return sha256.Sum256([]byte(strconv.Itoa(i))) }

// somes is n digests.
func somes(n int) []api.Digest {
	l := make([]api.Digest, n)
	for i := range l {
		l[i] = some(i)
	}
	return l
}

// isOutside says whether one of the numbers isn't from 0 to most.
func isOutside(most int, l ...int) bool {
	return slices.ContainsFunc(l, func(n int) bool { return n < 0 || n > most })
}

// rightRequest says whether a request satisfies the limits.
func rightRequest(r wire.Request) bool {
	numbers := !isOutside(mostTime, r.Id, r.At, r.N) && !isOutside(mostText, len(r.Repo), len(r.Word))
	return numbers && r.Op != 0 && !isOutside(20, r.Op) && !isOutside(mostBody, len(r.Body))
}

// rightReply says whether a reply satisfies the limits.
func rightReply(r wire.Reply) bool {
	for _, s := range r.Words {
		if len(s) > mostText {
			return false
		}
	}
	lengths := !isOutside(mostBody, len(r.Body)) && !isOutside(100, len(r.Words)) && !isOutside(4096, len(r.Sums))
	return lengths && !isOutside(255, int(r.Code)) && !isOutside(mostTime, r.N, r.M)
}

// count is n, with a text behind it, as they stand in an encoding.
func count(n int, s string) []byte { return append(binary.AppendUvarint(nil, uint64(n)), s...) }

func text(s string) []byte { return count(len(s), s) }

// encodedRequest is the oracle of EncodeRequest, for a request that nothing is wrong with.
func encodedRequest(r wire.Request) []byte {
	b := slices.Concat([]byte{byte(r.Op)}, text(r.Repo), text(r.Word), r.Digest[:])
	for _, n := range []int{r.Id, r.At, r.N} {
		b = append(b, count(n, "")...)
	}
	return append(b, text(string(r.Body))...)
}

// encodedReply is the oracle of EncodeReply, for a reply that nothing is wrong with.
func encodedReply(r wire.Reply) []byte {
	b := slices.Concat([]byte{byte(r.Code)}, r.Digest[:], count(r.N, ""), count(r.M, ""), text(string(r.Body)))
	b = append(b, count(len(r.Words), "")...)
	for _, s := range r.Words {
		b = append(b, text(s)...)
	}
	b = append(b, count(len(r.Sums), "")...)
	for _, d := range r.Sums {
		b = append(b, d[:]...)
	}
	return b
}

// source reads whatever looks like a field; a number that is too great for that is -1, and so is one that isn't there.
type source struct{ *bytes.Reader }

func (s source) first() int {
	c, e := s.ReadByte()
	if e != nil {
		return -1
	}
	return int(c)
}

func (s source) number() int {
	n, e := binary.ReadUvarint(s)
	if e != nil || n > math.MaxInt64 {
		return -1
	}
	return int(n)
}

func (s source) text() string {
	b := make([]byte, max(0, min(s.number(), s.Len())))
	io.ReadFull(s, b)
	return string(b)
}

func (s source) sum() (d api.Digest) {
	io.ReadFull(s, d[:])
	return d
}

// decodedRequest is the oracle of DecodeRequest: what it read is the request if it is right and written so.
func decodedRequest(b []byte) (wire.Request, bool) {
	s := source{bytes.NewReader(b)}
	r := wire.Request{Op: s.first(), Repo: s.text(), Word: s.text(), Digest: s.sum(), Id: s.number(), At: s.number(), N: s.number(), Body: []byte(s.text())}
	if !rightRequest(r) || !bytes.Equal(encodedRequest(r), b) {
		return wire.Request{}, false
	}
	return r, true
}

// decodedReply is the oracle of DecodeReply.
func decodedReply(b []byte) (wire.Reply, bool) {
	s := source{bytes.NewReader(b)}
	r := wire.Reply{Code: api.Errno(s.first()), Digest: s.sum(), N: s.number(), M: s.number(), Body: []byte(s.text())}
	// A number of words or digests that is greater than what is left is none.
	for n := min(s.number(), s.Len()); n > 0; n-- {
		r.Words = append(r.Words, s.text())
	}
	for n := min(s.number(), s.Len()); n > 0; n-- {
		r.Sums = append(r.Sums, s.sum())
	}
	if !rightReply(r) || !bytes.Equal(encodedReply(r), b) {
		return wire.Reply{}, false
	}
	return r, true
}

// sameRequest says whether two requests are the same; a slice that is nil is an empty one.
func sameRequest(a, b wire.Request) bool {
	same := bytes.Equal(a.Body, b.Body) && a.Op == b.Op && a.Repo == b.Repo && a.Word == b.Word
	return same && a.Digest == b.Digest && a.Id == b.Id && a.At == b.At && a.N == b.N
}

func sameReply(a, b wire.Reply) bool {
	same := bytes.Equal(a.Body, b.Body) && slices.Equal(a.Words, b.Words) && slices.Equal(a.Sums, b.Sums)
	return same && a.Code == b.Code && a.Digest == b.Digest && a.N == b.N && a.M == b.M
}

func TestOracle(t *testing.T) { // the chapter's example, and one like it, hold for what the other tests hold the package against
	b := slices.Concat([]byte{18, 0, 0}, make([]byte, 32), []byte{0, 0, 0, 0})
	r := wire.Request{Op: 18}
	if !rightRequest(r) || !bytes.Equal(encodedRequest(r), b) || len(b) != 39 {
		t.Errorf("encodedRequest: %v", encodedRequest(r))
	}
	if x, ok := decodedRequest(b); !sameRequest(x, r) || !ok {
		t.Errorf("decodedRequest: %+v, %v", x, ok)
	}
	for n := range 39 {
		if x, ok := decodedRequest(b[:n]); ok {
			t.Errorf("decodedRequest of %d bytes: %+v", n, x)
		}
	}
	y := wire.Reply{Code: 255, N: 1, M: 300, Body: []byte("b"), Words: []string{"", "ab"}, Sums: somes(1)}
	b = slices.Concat([]byte{255}, make([]byte, 32), []byte("\x01\xac\x02\x01b\x02\x00\x02ab\x01"), y.Sums[0][:])
	if !rightReply(y) || !bytes.Equal(encodedReply(y), b) {
		t.Errorf("encodedReply: %q", encodedReply(y))
	}
	if x, ok := decodedReply(b); !sameReply(x, y) || !ok {
		t.Errorf("decodedReply: %+v, %v", x, ok)
	}
	for n := range len(b) {
		if x, ok := decodedReply(b[:n]); ok {
			t.Errorf("decodedReply of %d bytes: %+v", n, x)
		}
	}
}
