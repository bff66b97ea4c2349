package keys_test

import (
	"bytes"
	"crypto/sha256"
	"encoding/binary"
	"encoding/hex"
	"math"
	"slices"
	"strconv"
	"sync"
	"testing"

	"hallmark/api"
	"hallmark/chain"
	"hallmark/keys"
)

// headSize is how many bytes of an encoded signature precede its path.
const headSize = 2 + 32*67

// The oracle below follows the chapter's definitions with the standard library's SHA-256; of the project's packages it uses chain alone.

func sum(parts ...[]byte) api.Digest { return sha256.Sum256(slices.Concat(parts...)) }

func leaf(d api.Digest) api.Digest { return sum([]byte{0}, d[:]) }

func node(l, r api.Digest) api.Digest { return sum([]byte{1}, l[:], r[:]) }

// climbed is the root above the leaf at i, and its path; the number of leaves is a power of two.
func climbed(l []api.Digest, i int) (root api.Digest, path []api.Digest) {
	for len(l) > 1 {
		path = append(path, l[i^1])
		var up []api.Digest
		for j := 0; j < len(l); j += 2 {
			up = append(up, node(l[j], l[j+1]))
		}
		l, i = up, i/2
	}
	return l[0], path
}

func word(height int, root api.Digest, index int, message []byte) api.Digest {
	return sum([]byte{5, byte(height)}, root[:], binary.BigEndian.AppendUint32(nil, uint32(index)), message)
}

// leavesOf are the leaves of the key of a seed and a height.
func leavesOf(seed api.Digest, height int) []api.Digest {
	var l []api.Digest
	for i := range 1 << height {
		l = append(l, leaf(chain.Public(seed, uint32(i))))
	}
	return l
}

// signed is the public part of the key whose leaves these are, and its signature of a message at an index.
func signed(seed api.Digest, leaves []api.Digest, height, index int, message []byte) (keys.Public, keys.Sig) {
	root, path := climbed(leaves, index)
	m := word(height, root, index, message)
	return keys.Public{Height: height, Root: root}, keys.Sig{Index: index, Chains: chain.Sign(seed, uint32(index), m), Path: path}
}

func encoded(s keys.Sig) []byte {
	b := []byte{byte(s.Index), byte(len(s.Path))}
	for _, d := range slices.Concat(s.Chains[:], s.Path) {
		b = append(b, d[:]...)
	}
	return b
}

// some is a digest, another one for each i.
func some(i int) api.Digest { return sum([]byte(strconv.Itoa(i))) }

func same(a, b keys.Sig) bool {
	return a.Index == b.Index && a.Chains == b.Chains && slices.Equal(a.Path, b.Path)
}

func zero(s keys.Sig) bool { return same(s, keys.Sig{}) }

// copied is s in memory of its own.
func copied(s keys.Sig) keys.Sig {
	s.Path = slices.Clone(s.Path)
	return s
}

func made(t *testing.T, seed api.Digest, height int) *keys.Key {
	t.Helper()
	k, e := keys.New(seed, height)
	if e != api.OK || k == nil {
		t.Fatalf("New of height %d: %d", height, e)
	}
	return k
}

func sign(t *testing.T, k *keys.Key, message string) keys.Sig {
	t.Helper()
	s, e := k.Sign([]byte(message))
	if e != api.OK {
		t.Fatalf("Sign: %d", e)
	}
	return s
}

// arbitrary is a signature that no key made.
func arbitrary(index, path int) keys.Sig {
	s := keys.Sig{Index: index}
	for c := range s.Chains {
		s.Chains[c] = some(1000 + c)
	}
	for i := range path {
		s.Path = append(s.Path, some(2000+i))
	}
	return s
}

func TestNew(t *testing.T) { // P5.1
	for height := range api.MaxHeight + 1 {
		seed := some(height)
		k := made(t, seed, height)
		root, _ := climbed(leavesOf(seed, height), 0)
		if got := k.Public(); got != (keys.Public{Height: height, Root: root}) {
			t.Errorf("Public of height %d = %v", height, got)
		}
		if k.Left() != 1<<height {
			t.Errorf("Left of height %d = %d", height, k.Left())
		}
	}
}

func TestNewRefuses(t *testing.T) { // P5.1
	for _, height := range []int{math.MinInt, -1 << 32, -256, -64, -2, -1, 7, 8, 31, 32, 63, 64, 70, 255, 256, 1 << 32, math.MaxInt} {
		if k, e := keys.New(some(1), height); k != nil || e != api.ErrArg {
			t.Errorf("New of height %d = %v, %d", height, k, e)
		}
	}
}

func TestSign(t *testing.T) { // P5.1, P5.4
	for height := range api.MaxHeight + 1 {
		seed := some(height)
		k, leaves := made(t, seed, height), leavesOf(some(height), height)
		for i := range 1 << height {
			message := bytes.Repeat([]byte{byte(i), 5}, 13*i)
			p, want := signed(seed, leaves, height, i, message)
			got, e := k.Sign(message)
			if e != api.OK || !same(got, want) {
				t.Fatalf("Sign at %d of height %d: Index %d, Path of %d, %d", i, height, got.Index, len(got.Path), e)
			}
			if k.Public() != p || k.Left() != 1<<height-i-1 {
				t.Errorf("after Sign at %d of height %d: Public %v, Left %d", i, height, k.Public(), k.Left())
			}
			if !keys.Verify(p, message, got) {
				t.Errorf("Verify refuses the signature at %d of height %d", i, height)
			}
		}
		for range 3 {
			if s, e := k.Sign([]byte("more")); e != api.ErrSpent || !zero(s) || k.Left() != 0 {
				t.Errorf("Sign of a spent key of height %d: %d, %d, Left %d", height, s.Index, e, k.Left())
			}
		}
	}
}

func TestKnownKeys(t *testing.T) { // P5.1, P5.3: computed by another program after the chapter
	var seed api.Digest
	for i := range seed {
		seed[i] = byte(i)
	}
	roots := map[int]string{
		0: "902ca950de6d95f06cde8078183533c0555d2afadc033ab4efd54871f716c0fb",
		1: "21fc235c70ae321178b56d3f3560997c4348824d370a805e92cea06612fcf821",
		6: "1481694d5838234ba147f70e79c0df96b6ce114eb1544a57f1b6240b5c86cb4d",
	}
	for height, want := range roots {
		root := made(t, seed, height).Public().Root
		if got := hex.EncodeToString(root[:]); got != want {
			t.Errorf("the root of height %d = %s", height, got)
		}
	}
	for _, c := range []struct {
		height, index int
		want          string
	}{
		{0, 0, "bec3b57415ad2e19627453cc7405367c3255d5bc1db05023e5f627b1088d8e2d"},
		{1, 1, "410e56c79b17e11a8e1c4f79718eed9ed36852ffcd44c8b14223f9e5a0824dfa"},
		{3, 5, "05e035bb2d6646052adc711e1b5db32cc1ab4cb85d6d9a7d282e9ca971129bea"},
		{6, 63, "f63605709f682d2c8693f293cf23601d52b749dc5ac8fe58f9da4863a9252bff"},
	} {
		k := made(t, seed, c.height)
		k.Skip(c.index)
		d := sum(keys.Encode(sign(t, k, "hallmark")))
		if got := hex.EncodeToString(d[:]); got != c.want {
			t.Errorf("the signature at %d of height %d = %s", c.index, c.height, got)
		}
	}
	id := keys.Id(made(t, seed, 6).Public())
	if got := hex.EncodeToString(id[:]); got != "460f440b2f78fc0da615a433135fccbaa90fe6c9e9bd717503eac818eac936fe" {
		t.Errorf("Id = %s", got)
	}
}

func TestMessages(t *testing.T) { // P5.1, P5.2
	k := made(t, some(1), 4)
	for _, n := range []int{0, 1, 31, 32, 33, 63, 64, 65, 1 << 20} {
		message := bytes.Repeat([]byte{7}, n+10)
		s, e := k.Sign(message[:n])
		if e != api.OK || !keys.Verify(k.Public(), message[:n], s) || keys.Verify(k.Public(), message[:n+1], s) {
			t.Errorf("a message of %d bytes: %d", n, e)
		}
		if !bytes.Equal(message, bytes.Repeat([]byte{7}, n+10)) {
			t.Error("the message or its capacity was changed")
		}
	}
	s, _ := k.Sign(nil)
	if !keys.Verify(k.Public(), []byte{}, s) || !keys.Verify(k.Public(), nil, s) {
		t.Error("nil and an empty message differ")
	}
}

func TestSkip(t *testing.T) { // P5.1
	for height := range 4 {
		n := 1 << height
		for by := range n + 1 {
			k := made(t, some(1), height)
			if e := k.Skip(by); e != api.OK || k.Left() != n-by {
				t.Errorf("Skip(%d) of height %d: %d, Left %d", by, height, e, k.Left())
			}
			s, e := k.Sign(nil)
			if by < n && (e != api.OK || s.Index != by || !keys.Verify(k.Public(), nil, s)) {
				t.Errorf("Sign after Skip(%d) of height %d: Index %d, %d", by, height, s.Index, e)
			}
			if by == n && (e != api.ErrSpent || !zero(s)) {
				t.Errorf("Sign after Skip of all: %d", e)
			}
		}
	}
}

func TestSkipRefuses(t *testing.T) { // P5.1
	k := made(t, some(1), 3)
	k.Skip(2)
	for _, n := range []int{math.MinInt, math.MinInt + 1, -1 << 32, -3, -2, -1, 7, 8, 9, 1 << 32, math.MaxInt - 1, math.MaxInt} {
		if e := k.Skip(n); e != api.ErrArg || k.Left() != 6 {
			t.Errorf("Skip(%d): %d, Left %d", n, e, k.Left())
		}
	}
	if s := sign(t, k, "a"); s.Index != 2 {
		t.Errorf("Sign after refused Skips: Index %d", s.Index)
	}
	if k.Skip(6) != api.ErrArg || k.Skip(5) != api.OK || k.Skip(0) != api.OK || k.Skip(1) != api.ErrArg || k.Left() != 0 {
		t.Error("Skip at the end")
	}
}

func TestNilKey(t *testing.T) { // P5.1, R1
	var k *keys.Key
	if k.Public() != (keys.Public{}) || k.Left() != 0 {
		t.Error("Public or Left of a nil key isn't zero")
	}
	for _, n := range []int{-1, 0, 1} {
		if e := k.Skip(n); e != api.ErrNil {
			t.Errorf("Skip(%d) of a nil key: %d", n, e)
		}
	}
	if s, e := k.Sign([]byte("a")); e != api.ErrNil || !zero(s) {
		t.Errorf("Sign of a nil key: %d", e)
	}
}

func TestZeroKey(t *testing.T) { // R1: not made by New, so that it must only not panic
	var k keys.Key
	k.Public()
	k.Left()
	k.Skip(1)
	k.Sign(nil)
}

func TestNoIndexTwice(t *testing.T) { // P5.4, W7
	k := made(t, some(1), 6)
	used := map[int]bool{}
	next := 0
	for i := 0; k.Left() > 0; i++ {
		if e := k.Skip(i % 3); e == api.OK {
			next += i % 3
		}
		k.Skip(-1)
		k.Skip(k.Left() + 1)
		message := []byte{byte(i)}
		s, e := k.Sign(message)
		if e == api.ErrSpent {
			continue
		}
		if e != api.OK || used[s.Index] || s.Index != next || !keys.Verify(k.Public(), message, s) {
			t.Fatalf("Sign at %d: Index %d, %d", next, s.Index, e)
		}
		used[s.Index] = true
		next++
	}
	if len(used) < 30 {
		t.Errorf("%d signatures of 64", len(used))
	}
}

func TestKeysApart(t *testing.T) { // P5.1, P5.4, R5
	a, b, c := made(t, some(1), 2), made(t, some(1), 2), made(t, some(2), 2)
	first := sign(t, a, "x")
	if b.Left() != 4 || !same(sign(t, b, "x"), first) || a.Public() != b.Public() {
		t.Error("two keys of one seed affect each other")
	}
	if c.Public() == a.Public() || keys.Verify(c.Public(), []byte("x"), first) || keys.Verify(a.Public(), []byte("x"), sign(t, c, "x")) {
		t.Error("keys of two seeds aren't told apart")
	}
	if made(t, some(1), 3).Public().Root == a.Public().Root {
		t.Error("keys of two heights have one root")
	}
}

func TestSignaturesAreNewMemory(t *testing.T) { // P5.1, R3
	seed, leaves := some(1), leavesOf(some(1), 3)
	k := made(t, seed, 3)
	for i := range 8 {
		_, want := signed(seed, leaves, 3, i, []byte("x"))
		s := sign(t, k, "x")
		if !same(s, want) {
			t.Errorf("what was written into earlier signatures changed that at %d", i)
		}
		clear(s.Path[:cap(s.Path)])
	}
}

func TestVerifyOfChange(t *testing.T) { // P5.2
	for height := range 5 {
		k := made(t, some(height), height)
		k.Skip(1<<height - 1)
		p, s := k.Public(), sign(t, k, "message")
		refuse := func(what string, p keys.Public, message string, s keys.Sig) {
			t.Helper()
			kept := copied(s)
			if keys.Verify(p, []byte(message), s) {
				t.Errorf("height %d: %s is accepted", height, what)
			}
			if !same(kept, s) {
				t.Errorf("height %d: %s: the signature that was passed was changed", height, what)
			}
		}
		if !keys.Verify(p, []byte("message"), s) || !keys.Verify(p, []byte("message"), s) {
			t.Errorf("height %d: the signature is refused", height)
		}
		for _, m := range []string{"", "messag", "message ", "Message", "\x00message"} {
			refuse("another message", p, m, s)
		}
		for c := range s.Chains {
			bad := s
			bad.Chains[c][c%32] ^= 1 << (c % 8)
			refuse("a changed chain", p, "message", bad)
		}
		for i := range s.Path {
			bad := copied(s)
			bad.Path[i][31-i] ^= 128
			refuse("a changed path", p, "message", bad)
			bad.Path = slices.Delete(slices.Clone(s.Path), i, i+1)
			refuse("a shorter path", p, "message", bad)
			bad.Path = slices.Insert(slices.Clone(s.Path), i, some(1))
			refuse("a longer path", p, "message", bad)
		}
		longer := copied(s)
		longer.Path = append(longer.Path, p.Root)
		refuse("a longer path", p, "message", longer)
		bad := p
		bad.Root[0] ^= 1
		refuse("another root", bad, "message", s)
		refuse("a zero signature", p, "message", keys.Sig{})
	}
}

func TestVerifyOfIndex(t *testing.T) { // P5.2
	for height := range 4 {
		n := 1 << height
		k := made(t, some(1), height)
		for right := range n {
			s := sign(t, k, "m")
			others := []int{math.MinInt, -1 << 32, -n, -1, n, n + 1, right + n, right - n, 64 + right, 256 + right, 1<<32 + right, -1<<32 + right, math.MinInt + right, math.MaxInt}
			for i := range n {
				others = append(others, i)
			}
			for _, i := range others {
				s.Index = i
				if keys.Verify(k.Public(), []byte("m"), s) != (i == right) {
					t.Errorf("height %d: the signature at %d is judged wrong at %d", height, right, i)
				}
			}
		}
	}
}

func TestVerifyOfHeight(t *testing.T) { // P5.2
	for height := range 4 {
		k := made(t, some(1), height)
		s := sign(t, k, "m")
		for _, h := range []int{math.MinInt, -256, -64, -1, 0, 1, 2, 3, 4, 5, 6, 7, 63, 64, 65, 256, 256 + height, 1<<32 + height, math.MinInt + height, math.MaxInt} {
			p := keys.Public{Height: h, Root: k.Public().Root}
			if keys.Verify(p, []byte("m"), s) != (h == height) {
				t.Errorf("a signature of height %d is judged wrong at height %d", height, h)
			}
			if h != height && keys.Verify(p, []byte("m"), arbitrary(0, min(max(h, 0), 70))) {
				t.Errorf("an arbitrary signature is accepted at height %d", h)
			}
		}
	}
}

// TestVerifyBeyondMaxHeight signs with a tree of the chapter's kind that is too high: nothing but its height is wrong.
func TestVerifyBeyondMaxHeight(t *testing.T) { // P5.2
	for height := range 10 {
		leaves := make([]api.Digest, 1<<height)
		for i := range leaves {
			leaves[i] = some(i)
		}
		for _, at := range []int{0, len(leaves) / 2, len(leaves) - 1} {
			// Of the other leaves Verify learns no more than their nodes.
			leaves[at] = leaf(chain.Public(some(1), uint32(at)))
			p, s := signed(some(1), leaves, height, at, []byte("m"))
			if keys.Verify(p, []byte("m"), s) != (height <= api.MaxHeight) {
				t.Errorf("a signature at %d of height %d is judged wrong", at, height)
			}
			leaves[at] = some(at)
		}
	}
}

func TestWordIsBound(t *testing.T) { // P5.2: a signature made for another word is refused
	seed, leaves := some(1), leavesOf(some(1), 2)
	p, s := signed(seed, leaves, 2, 1, []byte("m"))
	if !keys.Verify(p, []byte("m"), s) {
		t.Fatal("the right word is refused")
	}
	other := p.Root
	other[5]++
	for what, m := range map[string]api.Digest{
		"height":  word(3, p.Root, 1, []byte("m")),
		"root":    word(2, other, 1, []byte("m")),
		"index":   word(2, p.Root, 2, []byte("m")),
		"message": word(2, p.Root, 1, []byte("n")),
		"bare":    sum([]byte("m")),
	} {
		s.Chains = chain.Sign(seed, 1, m)
		if keys.Verify(p, []byte("m"), s) {
			t.Errorf("a signature of a word of another %s is accepted", what)
		}
	}
}

func TestId(t *testing.T) { // P5.3
	seen := map[api.Digest]bool{}
	for _, root := range []api.Digest{{}, some(1), some(2)} {
		for _, height := range []int{0, 1, 6, 7, 127, 128, 254} {
			p := keys.Public{Height: height, Root: root}
			if got := keys.Id(p); got != sum([]byte{6, byte(height)}, root[:]) || seen[got] {
				t.Errorf("Id of %v = %x", p, got)
			}
			seen[keys.Id(p)] = true
		}
		for height, low := range map[int]byte{-1: 255, -256: 0, 256: 0, 257: 1, 1<<40 + 3: 3, math.MinInt: 0, math.MaxInt: 255} {
			if got := keys.Id(keys.Public{Height: height, Root: root}); got != sum([]byte{6, low}, root[:]) {
				t.Errorf("Id of height %d = %x", height, got)
			}
		}
	}
}

func TestEncode(t *testing.T) { // P5.3
	for height := range api.MaxHeight + 1 {
		k := made(t, some(1), height)
		k.Skip(1<<height - 1)
		s := sign(t, k, "m")
		b := keys.Encode(s)
		if !bytes.Equal(b, encoded(s)) || len(b) != headSize+32*height {
			t.Errorf("Encode of height %d has %d bytes", height, len(b))
		}
		got, e := keys.Decode(b)
		if e != api.OK || !same(got, s) || !keys.Verify(k.Public(), []byte("m"), got) {
			t.Errorf("Decode of the Encode of height %d: %d", height, e)
		}
	}
}

func TestEncodeAnySignature(t *testing.T) { // P5.3: the Index isn't held against the Path
	for _, index := range []int{0, 1, 62, 63} {
		for path := range api.MaxHeight + 1 {
			s := arbitrary(index, path)
			b := keys.Encode(s)
			got, e := keys.Decode(b)
			if !bytes.Equal(b, encoded(s)) || e != api.OK || !same(got, s) {
				t.Errorf("Index %d, Path of %d: %d bytes, %d", index, path, len(b), e)
			}
		}
	}
	b := keys.Encode(keys.Sig{})
	if !bytes.Equal(b, make([]byte, headSize)) {
		t.Errorf("Encode of the zero signature has %d bytes", len(b))
	}
}

func TestEncodeRefuses(t *testing.T) { // P5.3
	for _, index := range []int{math.MinInt, -256, -64, -1, 64, 65, 255, 256, 1 << 32, math.MaxInt} {
		if b := keys.Encode(arbitrary(index, 6)); len(b) != 0 {
			t.Errorf("Encode at %d has %d bytes", index, len(b))
		}
	}
	for _, path := range []int{7, 8, 64, 255, 256, 262, 512} {
		if b := keys.Encode(arbitrary(0, path)); len(b) != 0 {
			t.Errorf("Encode with a path of %d has %d bytes", path, len(b))
		}
	}
}

func TestDecodeRefuses(t *testing.T) { // P5.3
	refuse := func(b []byte, want api.Errno) {
		t.Helper()
		if s, e := keys.Decode(b); e != want || !zero(s) {
			t.Errorf("Decode of %d bytes: %d, not %d", len(b), e, want)
		}
	}
	refuse(nil, api.ErrShort)
	b := encoded(arbitrary(5, 3))
	for n := range len(b) {
		want := api.ErrShort
		if n >= headSize {
			want = api.ErrForm
		}
		refuse(b[:n], want)
	}
	for more := 1; more < 300; more++ {
		refuse(append(bytes.Clone(b), make([]byte, more)...), api.ErrForm)
	}
	wrong := bytes.Repeat([]byte{255}, headSize-1)
	refuse(wrong, api.ErrShort)
	for index := range 256 {
		for path := range 256 {
			c := make([]byte, headSize+32*path)
			c[0], c[1] = byte(index), byte(path)
			if index >= 64 || path > api.MaxHeight {
				refuse(c, api.ErrForm)
				// So many digests as the limits allow don't make a wrong byte right.
				refuse(c[:min(len(c), headSize+32*api.MaxHeight)], api.ErrForm)
			} else if s, e := keys.Decode(c); e != api.OK || s.Index != index || len(s.Path) != path {
				t.Errorf("Decode at %d with a path of %d: %d", index, path, e)
			}
		}
	}
}

func TestDecodeOfAnyLength(t *testing.T) { // P5.3
	for path := range 8 {
		for n := headSize - 40; n < headSize+32*9; n++ {
			b := make([]byte, n)
			b[1] = byte(path)
			want := api.ErrForm
			if n < headSize {
				want = api.ErrShort
			} else if path <= api.MaxHeight && n == headSize+32*path {
				want = api.OK
			}
			if _, e := keys.Decode(b); e != want {
				t.Errorf("Decode of %d bytes with a path of %d: %d, not %d", n, path, e, want)
			}
		}
	}
}

func TestCodecMemory(t *testing.T) { // P5.3, R3
	want := arbitrary(9, 4)
	s := copied(want)
	b := keys.Encode(s)
	clear(s.Path)
	if !bytes.Equal(b, encoded(want)) {
		t.Error("an Encode shares memory with the signature")
	}
	room := append(bytes.Clone(b), 1, 2, 3)
	got, e := keys.Decode(room[:len(b)])
	clear(room[:len(b)])
	if e != api.OK || !same(got, want) {
		t.Error("a Decode shares memory with the bytes")
	}
	clear(got.Path[:cap(got.Path)])
	if !bytes.Equal(room, append(make([]byte, len(b)), 1, 2, 3)) {
		t.Error("a Decode shares memory with the bytes, or changed them")
	}
}

func TestKeysInGoroutines(t *testing.T) { // R5: each by one goroutine, with nothing between them
	var wait sync.WaitGroup
	wrong := make([]bool, 4)
	for i := range wrong {
		wait.Go(func() {
			k, _ := keys.New(some(i), 2)
			for range 4 {
				s, e := k.Sign([]byte("m"))
				wrong[i] = wrong[i] || e != api.OK || !keys.Verify(k.Public(), []byte("m"), s)
			}
		})
	}
	wait.Wait()
	if slices.Contains(wrong, true) {
		t.Error("keys in several goroutines affect each other")
	}
}
