package record_test

import (
	"bytes"
	"crypto/sha256"
	"encoding/binary"
	"math"
	"regexp"
	"strconv"
	"testing"

	"hallmark/api"
	"hallmark/record"
)

// The oracle follows the chapters' definitions with the library's expressions and binary numbers; it uses nothing of the package that it checks but its types.

const part = `[a-z0-9]+((\.|_|__|-+)[a-z0-9]+)*`

var (
	repoForm = regexp.MustCompile(`^` + part + `(/` + part + `)*$`)
	tagForm  = regexp.MustCompile(`^[A-Za-z0-9_][A-Za-z0-9_.-]{0,127}$`)
)

// some is a digest, another one for each i.
func some(i int) api.Digest { return sha256.Sum256([]byte(strconv.Itoa(i))) }

// right is the oracle of Right.
func right(r record.Record) bool {
	kind := r.Kind == 1 || r.Kind == 2 && r.Digest == [32]byte{}
	names := len(r.Repo) <= 128 && repoForm.MatchString(r.Repo) && tagForm.MatchString(r.Tag)
	return kind && names && r.Time >= 0 && r.Time <= 1099511627776
}

// rightHead is the oracle of RightHead.
func rightHead(h record.Head) bool {
	return h.Size >= 0 && h.Size <= 1048576 && h.Time >= 0 && h.Time <= 1099511627776
}

// encoded is the oracle of Encode, for a record that nothing is wrong with.
func encoded(r record.Record) []byte {
	b := []byte{byte(r.Kind)}
	for _, s := range []string{r.Repo, r.Tag} {
		b = append(binary.AppendUvarint(b, uint64(len(s))), s...)
	}
	if r.Kind == 1 {
		b = append(b, r.Digest[:]...)
	}
	return binary.BigEndian.AppendUint64(b, uint64(r.Time))
}

// encodedHead is the oracle of EncodeHead, for a head that nothing is wrong with.
func encodedHead(h record.Head) []byte {
	b := binary.BigEndian.AppendUint64([]byte{7}, uint64(h.Size))
	return binary.BigEndian.AppendUint64(append(b, h.Root[:]...), uint64(h.Time))
}

// decoded is the oracle of Decode: it reads whatever looks like a record, and accepts it if it is right and written so.
func decoded(b []byte) (record.Record, bool) {
	var r record.Record
	rest := bytes.NewReader(b)
	kind, _ := rest.ReadByte()
	r.Kind = int(kind)
	for _, s := range []*string{&r.Repo, &r.Tag} {
		n, e := binary.ReadUvarint(rest)
		if e != nil || n > math.MaxInt16 {
			return record.Record{}, false
		}
		text := make([]byte, n)
		rest.Read(text)
		*s = string(text)
	}
	if r.Kind == 1 {
		rest.Read(r.Digest[:])
	}
	var time uint64
	binary.Read(rest, binary.BigEndian, &time)
	r.Time = int(time)
	if !right(r) || !bytes.Equal(encoded(r), b) {
		return record.Record{}, false
	}
	return r, true
}

// decodedHead is the oracle of DecodeHead.
func decodedHead(b []byte) (record.Head, bool) {
	if len(b) != 49 {
		return record.Head{}, false
	}
	h := record.Head{Size: int(binary.BigEndian.Uint64(b[1:])), Root: api.Digest(b[9:41]), Time: int(binary.BigEndian.Uint64(b[41:]))}
	if !rightHead(h) || !bytes.Equal(encodedHead(h), b) {
		return record.Head{}, false
	}
	return h, true
}

func TestOracle(t *testing.T) { // the examples of the chapter hold for what the other tests hold the package against
	r := record.Record{Kind: 2, Repo: "a", Tag: "b", Time: 1}
	b := []byte{2, 1, 97, 1, 98, 0, 0, 0, 0, 0, 0, 0, 1}
	if !right(r) || !bytes.Equal(encoded(r), b) {
		t.Errorf("encoded: %v", encoded(r))
	}
	if x, ok := decoded(b); x != r || !ok {
		t.Errorf("decoded: %+v, %v", x, ok)
	}
	if x, ok := decoded(b[:12]); ok {
		t.Errorf("decoded: %+v", x)
	}
	h := record.Head{Size: 3, Root: some(0), Time: 1}
	if x, ok := decodedHead(encodedHead(h)); x != h || !ok || len(encodedHead(h)) != 49 {
		t.Errorf("decodedHead: %+v, %v", x, ok)
	}
}
