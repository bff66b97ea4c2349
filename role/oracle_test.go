package role_test

import (
	"bytes"
	"crypto/sha256"
	"encoding/binary"
	"slices"
	"strconv"
	"testing"

	"hallmark/api"
	"hallmark/keys"
	"hallmark/role"
)

// The oracle follows the chapter's definitions with the library's SHA-256 and binary numbers; of the project's packages it uses keys.Verify alone, which the chapter names, and the types.

const (
	mostKeys = 16
	mostTime = 1 << 40
	sigHead  = 2 + 32*67
)

// some is a digest, another one for each i.
func some(i int) api.Digest { return sha256.Sum256([]byte(strconv.Itoa(i))) }

// id is the oracle of a key's Id.
func id(p keys.Public) api.Digest {
	return sha256.Sum256(append([]byte{6, byte(p.Height)}, p.Root[:]...))
}

// right is the oracle of Right.
func right(r role.Role) bool {
	if len(r.Keys) > 16 || r.Need < 1 || r.Need > len(r.Keys) {
		return false
	}
	for i, k := range r.Keys {
		if k.Height < 0 || k.Height > 6 || slices.Contains(r.Keys[:i], k) {
			return false
		}
	}
	return true
}

// rightRoot is the oracle of RightRoot.
func rightRoot(r role.Root) bool {
	numbers := r.Version >= 1 && r.Version <= 1099511627776 && r.Until >= 0 && r.Until <= 1099511627776
	return numbers && right(r.Root) && right(r.Tags) && right(r.Log)
}

// encoded is the oracle of Encode, for a root that nothing is wrong with; of others it makes something that looks like a root.
func encoded(r role.Root) []byte {
	b := binary.BigEndian.AppendUint64([]byte{8}, uint64(r.Version))
	b = binary.BigEndian.AppendUint64(b, uint64(r.Until))
	for _, x := range []role.Role{r.Root, r.Tags, r.Log} {
		b = append(b, byte(x.Need), byte(len(x.Keys)))
		for _, k := range x.Keys {
			b = append(append(b, byte(k.Height)), k.Root[:]...)
		}
	}
	return b
}

// decoded is the oracle of Decode: it reads whatever looks like a root, as if zero bytes followed, and accepts it if it is right and written so.
func decoded(b []byte) (role.Root, bool) {
	rest := bytes.NewReader(b)
	var head struct {
		Mark           byte
		Version, Until uint64
	}
	binary.Read(rest, binary.BigEndian, &head)
	r := role.Root{Version: int(head.Version), Until: int(head.Until)}
	for _, x := range []*role.Role{&r.Root, &r.Tags, &r.Log} {
		need, _ := rest.ReadByte()
		n, _ := rest.ReadByte()
		x.Need = int(need)
		for range n {
			height, _ := rest.ReadByte()
			k := keys.Public{Height: int(height)}
			rest.Read(k.Root[:])
			x.Keys = append(x.Keys, k)
		}
	}
	if !rightRoot(r) || !bytes.Equal(encoded(r), b) {
		return role.Root{}, false
	}
	return r, true
}

// hasForm is the oracle of whether a signature has an encoding.
func hasForm(s keys.Sig) bool { return s.Index >= 0 && s.Index <= 63 && len(s.Path) <= 6 }

// encodedMark is a mark as it stands in a list of them.
func encodedMark(m role.Mark) []byte {
	b := binary.AppendUvarint(slices.Clone(m.Id[:]), uint64(sigHead+32*len(m.Sig.Path)))
	b = append(b, byte(m.Sig.Index), byte(len(m.Sig.Path)))
	for _, d := range slices.Concat(m.Sig.Chains[:], m.Sig.Path) {
		b = append(b, d[:]...)
	}
	return b
}

// encodedMarks is the oracle of EncodeMarks, for marks that nothing is wrong with.
func encodedMarks(l []role.Mark) []byte {
	b := []byte{byte(len(l))}
	for _, m := range l {
		b = append(b, encodedMark(m)...)
	}
	return b
}

// decodedMarks is the oracle of DecodeMarks: it reads whatever looks like marks, as if zero bytes followed, and accepts them if they are written so.
func decodedMarks(b []byte) ([]role.Mark, bool) {
	rest := bytes.NewReader(b)
	n, _ := rest.ReadByte()
	var l []role.Mark
	for range n {
		var m role.Mark
		rest.Read(m.Id[:])
		binary.ReadUvarint(rest)
		index, _ := rest.ReadByte()
		path, _ := rest.ReadByte()
		m.Sig.Index = int(index)
		m.Sig.Path = make([]api.Digest, path)
		for i := range m.Sig.Chains {
			rest.Read(m.Sig.Chains[i][:])
		}
		for i := range m.Sig.Path {
			rest.Read(m.Sig.Path[i][:])
		}
		if !hasForm(m.Sig) {
			return nil, false
		}
		l = append(l, m)
	}
	return l, len(l) <= 16 && bytes.Equal(encodedMarks(l), b)
}

// counted is the oracle of Count.
func counted(r role.Role, message []byte, l []role.Mark) (n int) {
	for _, k := range r.Keys {
		if slices.ContainsFunc(l, func(m role.Mark) bool { return m.Id == id(k) && keys.Verify(k, message, m.Sig) }) {
			n++
		}
	}
	return n
}

func sameRole(a, b role.Role) bool { return a.Need == b.Need && slices.Equal(a.Keys, b.Keys) }

func sameRoot(a, b role.Root) bool {
	return a.Version == b.Version && a.Until == b.Until && sameRole(a.Root, b.Root) && sameRole(a.Tags, b.Tags) && sameRole(a.Log, b.Log)
}

func sameMark(a, b role.Mark) bool {
	return a.Id == b.Id && a.Sig.Index == b.Sig.Index && a.Sig.Chains == b.Sig.Chains && slices.Equal(a.Sig.Path, b.Sig.Path)
}

func sameMarks(a, b []role.Mark) bool { return slices.EqualFunc(a, b, sameMark) }

// public is the public part of some key of a height, another one for each i.
func public(i, height int) keys.Public { return keys.Public{Height: height, Root: some(i)} }

// roleOf is a role of n keys from the number first on, with heights of all sorts.
func roleOf(need, first, n int) role.Role {
	r := role.Role{Need: need}
	for i := first; i < first+n; i++ {
		r.Keys = append(r.Keys, public(i, i%7))
	}
	return r
}

// rootOf is a root of roles with so many keys.
func rootOf(root, tags, log int) role.Root {
	return role.Root{Version: 3, Until: 500, Root: roleOf(1, 0, root), Tags: roleOf(tags, 100, tags), Log: roleOf((log+1)/2, 200, log)}
}

// unsigned is a signature that no key made.
func unsigned(i, index, path int) keys.Sig {
	s := keys.Sig{Index: index}
	for c := range s.Chains {
		s.Chains[c] = some(1000*i + c)
	}
	for p := range path {
		s.Path = append(s.Path, some(1000*i+100+p))
	}
	return s
}

// marksOf are n marks that no key made, with all sorts of indices and paths.
func marksOf(n int) []role.Mark {
	var l []role.Mark
	for i := range n {
		l = append(l, role.Mark{Id: some(i), Sig: unsigned(i, 63-i, i%7)})
	}
	return l
}

func TestOracle(t *testing.T) { // what the other tests hold the package against, on what can be counted by hand
	r := rootOf(1, 2, 3)
	b := encoded(r)
	if len(b) != 1+8+8+3*2+6*33 || b[0] != 8 || b[8] != 3 || b[15] != 1 || b[16] != 244 || b[17] != 1 || b[18] != 1 || !rightRoot(r) {
		t.Errorf("encoded: %v", b)
	}
	if x, ok := decoded(b); !ok || !sameRoot(x, r) {
		t.Errorf("decoded: %+v, %v", x, ok)
	}
	if x, ok := decoded(b[:len(b)-1]); ok {
		t.Errorf("decoded: %+v", x)
	}
	l := marksOf(2)
	b = encodedMarks(l)
	if len(b) != 1+2*(32+2+sigHead)+32 || b[0] != 2 || b[33] != 0xe2 || b[34] != 0x10 || b[35] != 63 || b[36] != 0 {
		t.Errorf("encodedMarks: %v", b)
	}
	if x, ok := decodedMarks(b); !ok || !sameMarks(x, l) {
		t.Errorf("decodedMarks: %v", ok)
	}
	if _, ok := decodedMarks(b[:len(b)-1]); ok {
		t.Error("decodedMarks of less")
	}
	k, e := keys.New(some(1), 2)
	if e != api.OK || id(k.Public()) != keys.Id(k.Public()) {
		t.Errorf("id of %v", k.Public())
	}
}
