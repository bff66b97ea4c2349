package merkle_test

import (
	"bytes"
	"crypto/sha256"
	"encoding/hex"
	"math"
	"math/bits"
	"slices"
	"strconv"
	"testing"

	"hallmark/api"
	"hallmark/merkle"
)

// The oracle below follows the chapter's definitions and the iterative checks of RFC 9162 with the standard library's SHA-256, so that it shares neither code nor shape with the package.

func leaf(p []byte) api.Digest { return sha256.Sum256(append([]byte{0}, p...)) }

func node(l, r api.Digest) api.Digest {
	return sha256.Sum256(slices.Concat([]byte{1}, l[:], r[:]))
}

var nothing = api.Digest(sha256.Sum256(nil))

// half is the greatest power of two less than n.
func half(n int) int {
	k := 1
	for k < n-k {
		k += k
	}
	return k
}

func root(l []api.Digest) api.Digest {
	if len(l) == 0 {
		return nothing
	}
	// A level of the tree at a time: a digest that has no neighbour goes up as it is.
	for len(l) > 1 {
		var up []api.Digest
		for i := 0; i+1 < len(l); i += 2 {
			up = append(up, node(l[i], l[i+1]))
		}
		if len(l)%2 == 1 {
			up = append(up, l[len(l)-1])
		}
		l = up
	}
	return l[0]
}

func path(l []api.Digest, i int) []api.Digest {
	if len(l) == 1 {
		return nil
	}
	k := half(len(l))
	if i < k {
		return append(path(l[:k], i), root(l[k:]))
	}
	return append(path(l[k:], i-k), root(l[:k]))
}

func proof(l []api.Digest, m int, whole bool) []api.Digest {
	k := half(len(l))
	switch {
	case m == 0 || m == len(l) && whole:
		return nil
	case m == len(l):
		return []api.Digest{root(l)}
	case m <= k:
		return append(proof(l[:k], m, whole), root(l[k:]))
	}
	return append(proof(l[k:], m-k, false), root(l[:k]))
}

// included is the root that follows from a way by RFC 9162, 2.1.3.2.
func included(n, i int, at api.Digest, way []api.Digest) (api.Digest, bool) {
	if i < 0 || i >= n {
		return api.Digest{}, false
	}
	f, s := uint64(i), uint64(n-1)
	for _, d := range way {
		if s == 0 {
			return api.Digest{}, false
		}
		if f&1 == 1 || f == s {
			at = node(d, at)
			for f&1 == 0 && f != 0 {
				f, s = f>>1, s>>1
			}
		} else {
			at = node(at, d)
		}
		f, s = f>>1, s>>1
	}
	return at, s == 0
}

// extended is the two roots that follow from a way by RFC 9162, 2.1.4.2, for 0 < m < n.
func extended(old api.Digest, m, n int, way []api.Digest) (first, all api.Digest, ok bool) {
	if bits.OnesCount64(uint64(m)) == 1 {
		way = slices.Concat([]api.Digest{old}, way)
	}
	if len(way) == 0 {
		return
	}
	f, s := uint64(m-1), uint64(n-1)
	for f&1 == 1 {
		f, s = f>>1, s>>1
	}
	first, all = way[0], way[0]
	for _, d := range way[1:] {
		if s == 0 {
			return first, all, false
		}
		if f&1 == 1 || f == s {
			first, all = node(d, first), node(d, all)
			for f&1 == 0 && f != 0 {
				f, s = f>>1, s>>1
			}
		} else {
			all = node(all, d)
		}
		f, s = f>>1, s>>1
	}
	return first, all, s == 0
}

// leaves is the leaves of the entries 0, 1, and so on.
func leaves(n int) []api.Digest {
	l := make([]api.Digest, n)
	for i := range l {
		l[i] = leaf([]byte(strconv.Itoa(i)))
	}
	return l
}

// changed is d with one bit changed, another one for each k.
func changed(d api.Digest, k int) api.Digest {
	d[k%32] ^= 1 << (k / 32 % 8)
	return d
}

// lengths are the lengths of lists that are worth a look.
func lengths(most int) []int {
	l := []int{}
	for n := 0; n <= most; n++ {
		l = append(l, n)
	}
	return append(l, 63, 64, 65, 100, 127, 128, 129)
}

func unhex(t *testing.T, s string) []byte {
	t.Helper()
	b, err := hex.DecodeString(s)
	if err != nil {
		t.Fatal(err)
	}
	return b
}

func TestLeaf(t *testing.T) { // P3.1
	p := bytes.Repeat([]byte{0, 1, 2, 255}, 50000)
	for _, n := range []int{0, 1, 31, 32, 54, 55, 56, 62, 63, 64, 65, 127, 128, 1000, len(p)} {
		if got := merkle.Leaf(p[:n]); got != leaf(p[:n]) {
			t.Errorf("Leaf of %d bytes = %x", n, got)
		}
	}
	if merkle.Leaf(nil) != merkle.Leaf([]byte{}) || merkle.Leaf(nil) != leaf(nil) {
		t.Error("Leaf of nil")
	}
}

func TestNode(t *testing.T) { // P3.1
	l := append(leaves(3), api.Digest{}, nothing)
	for _, a := range l {
		for _, b := range l {
			if got := merkle.Node(a, b); got != node(a, b) {
				t.Errorf("Node(%x, %x) = %x", a, b, got)
			}
		}
	}
}

func TestEntriesAreNoNodes(t *testing.T) { // P3.1, P3.5
	a, b := merkle.Leaf([]byte("a")), merkle.Leaf([]byte("b"))
	both := slices.Concat(a[:], b[:])
	if merkle.Leaf(both) == merkle.Node(a, b) {
		t.Error("an entry of two digests has the digest of their node")
	}
}

func TestRoot(t *testing.T) { // P3.1
	all := leaves(1025)
	for _, n := range append(lengths(40), 1000, 1023, 1024, 1025) {
		if got := merkle.Root(all[:n]); got != root(all[:n]) {
			t.Errorf("Root of %d leaves = %x", n, got)
		}
	}
	if merkle.Root(nil) != nothing || merkle.Root([]api.Digest{}) != nothing {
		t.Error("Root of no leaves")
	}
	if merkle.Root(all[5:6]) != all[5] {
		t.Error("Root of one leaf isn't the leaf")
	}
}

func TestRootOfAnyDigests(t *testing.T) { // P3.1
	for n := range 20 {
		zeros := make([]api.Digest, n)
		if merkle.Root(zeros) != root(zeros) {
			t.Errorf("Root of %d zeros", n)
		}
		same := slices.Repeat([]api.Digest{nothing}, n)
		if merkle.Root(same) != root(same) {
			t.Errorf("Root of %d equal digests", n)
		}
	}
}

func TestKnownRoots(t *testing.T) { // P3.1, P3.4
	// The entries and roots of the reference tests of Certificate Transparency.
	entries := []string{
		"", "00", "10", "2021", "3031", "40414243", "5051525354555657", "606162636465666768696a6b6c6d6e6f",
	}
	want := []string{
		"6e340b9cffb37a989ca544e6bb780a2c78901d3fb33738768511a30617afa01d",
		"fac54203e7cc696cf0dfcb42c92a1d9dbaf70ad9e621f4bd8d98662f00e3c125",
		"aeb6bcfe274b70a14fb067a5e5578264db0fa9b51af5e0ba159158f329e06e77",
		"d37ee418976dd95753c1c73862b9398fa2a2cf9b4ff0fdfe8b30cd95209614b7",
		"4e3bbb1f7b478dcfe71fb631631519a3bca12c9aefca1612bfce4c13a86264d4",
		"76e67dadbcdf1e10e1b74ddc608abd2f98dfb16fbce75277b5232a127f2087ef",
		"ddb89be403809e325750d3d263cd78929c2942b7942a34b77e122c9594a74c8c",
		"5dc9da79a70659a9ad559cb701ded9a2ab9d823aad2f4960cfe370eff4604328",
	}
	f := merkle.New()
	var l []api.Digest
	for i, s := range entries {
		l = append(l, merkle.Leaf(unhex(t, s)))
		f.Add(l[i])
		if got := merkle.Root(l); !bytes.Equal(got[:], unhex(t, want[i])) || f.Root() != got {
			t.Errorf("the root of %d entries = %x", i+1, got)
		}
	}
}

func TestPath(t *testing.T) { // P3.2
	for _, n := range lengths(33) {
		l := leaves(n)
		for i := range n {
			got, e := merkle.Path(l, i)
			if e != api.OK || !slices.Equal(got, path(l, i)) {
				t.Errorf("Path of %d in %d leaves = %x, %d", i, n, got, e)
			}
		}
	}
}

func TestPathErrors(t *testing.T) { // P3.2
	for n := range 10 {
		for _, i := range []int{-1, -n, n, n + 1, 2 * n, math.MinInt, math.MaxInt} {
			if i == 0 && n > 0 {
				continue
			}
			if got, e := merkle.Path(leaves(n), i); e != api.ErrArg || len(got) != 0 {
				t.Errorf("Path of %d in %d leaves = %x, %d", i, n, got, e)
			}
		}
	}
	if _, e := merkle.Path(nil, 0); e != api.ErrArg {
		t.Error("Path in nil")
	}
}

func TestCheck(t *testing.T) { // P3.2
	for _, n := range lengths(20) {
		l := leaves(n)
		for i := range n {
			if !merkle.Check(root(l), n, i, l[i], path(l, i)) {
				t.Errorf("Check rejects %d in %d leaves", i, n)
			}
		}
	}
}

func TestCheckOfZeros(t *testing.T) { // P3.2
	if !merkle.Check(api.Digest{}, 1, 0, api.Digest{}, nil) || !merkle.Check(api.Digest{}, 1, 0, api.Digest{}, []api.Digest{}) {
		t.Error("a zero is a leaf and a root")
	}
	if merkle.Check(api.Digest{}, 2, 0, api.Digest{}, nil) || merkle.Check(api.Digest{}, 2, 1, api.Digest{}, nil) {
		t.Error("a way too short leads to zero")
	}
}

func TestCheckRejectsChanges(t *testing.T) { // P3.2, P3.5
	for n := 1; n <= 18; n++ {
		l := leaves(n)
		top := root(l)
		for i := range n {
			way := path(l, i)
			for k := range 256 {
				if merkle.Check(changed(top, k), n, i, l[i], way) {
					t.Errorf("another root: bit %d, %d of %d", k, i, n)
				}
				if merkle.Check(top, n, i, changed(l[i], k), way) {
					t.Errorf("another leaf: bit %d, %d of %d", k, i, n)
				}
			}
			for j := range way {
				other := slices.Clone(way)
				other[j] = changed(way[j], i+j)
				if merkle.Check(top, n, i, l[i], other) {
					t.Errorf("another way: step %d, %d of %d", j, i, n)
				}
			}
		}
	}
}

func TestCheckRejectsLengths(t *testing.T) { // P3.2
	for n := 1; n <= 18; n++ {
		l := leaves(n)
		top := root(l)
		for i := range n {
			way := path(l, i)
			for k := range way {
				if merkle.Check(top, n, i, l[i], way[:k]) || merkle.Check(top, n, i, l[i], way[k+1:]) {
					t.Errorf("a way too short, %d of %d", i, n)
				}
			}
			long := append(slices.Clone(way), top)
			beyond := node(top, top)
			if merkle.Check(top, n, i, l[i], long) || merkle.Check(beyond, n, i, l[i], long) {
				t.Errorf("a way too long at its end, %d of %d", i, n)
			}
			if merkle.Check(top, n, i, l[i], slices.Insert(slices.Clone(way), 0, l[i])) {
				t.Errorf("a way too long at its beginning, %d of %d", i, n)
			}
		}
	}
	l := slices.Repeat([]api.Digest{nothing}, 100000)
	if merkle.Check(nothing, 5, 2, nothing, l) || merkle.Check(nothing, math.MaxInt, 2, nothing, l) {
		t.Error("a way of 100000 digests")
	}
}

func TestCheckRejectsIndexes(t *testing.T) { // P3.2
	for n := 1; n <= 12; n++ {
		l := leaves(n)
		for i := range n {
			for j := -2; j < n+3; j++ {
				if got := merkle.Check(root(l), n, j, l[i], path(l, i)); got != (i == j) {
					t.Errorf("the leaf at %d of %d, as that at %d: %t", i, n, j, got)
				}
			}
		}
	}
	for _, n := range []int{0, -1, 1, 2, math.MinInt, math.MaxInt} {
		for _, i := range []int{-1, n, math.MinInt, math.MaxInt} {
			if merkle.Check(nothing, n, i, nothing, nil) {
				t.Errorf("the leaf at %d of %d", i, n)
			}
		}
	}
	if merkle.Check(nothing, 0, 0, nothing, nil) || merkle.Check(nothing, -5, -5, nothing, nil) || merkle.Check(nothing, -5, 0, nothing, nil) {
		t.Error("a leaf in no leaves")
	}
}

// great are numbers of leaves for which nobody has a list.
func great() []int {
	l := []int{math.MaxInt, math.MaxInt - 1, 1<<62 + 1, 1 << 62, 1<<62 - 1}
	for _, k := range []int{20, 32, 61} {
		l = append(l, 1<<k-1, 1<<k, 1<<k+1, 1<<k|0x12345)
	}
	return l
}

// within are numbers from 0 to n that are worth a look.
func within(n int) []int {
	l := []int{0, 1, 2, 3, 12345, n / 3, n / 2, n/2 + 1, n - 3, n - 2, n - 1, n}
	for k := 4; k < 63; k += 9 {
		l = append(l, 1<<k, 1<<k-1, n-1<<k)
	}
	return slices.DeleteFunc(l, func(i int) bool { return i < 0 || i > n })
}

func TestCheckNeedsNoList(t *testing.T) { // P3.2
	long := leaves(70)
	for _, n := range great() {
		for _, i := range within(n - 1) {
			found := 0
			for k := range long {
				want, ok := included(n, i, nothing, long[:k])
				if got := merkle.Check(want, n, i, nothing, long[:k]); got != ok {
					t.Fatalf("%d of %d with %d digests: %t", i, n, k, got)
				}
				if ok {
					found++
				}
			}
			if found != 1 {
				t.Fatalf("%d of %d: %d ways are accepted", i, n, found)
			}
		}
	}
}

func TestProof(t *testing.T) { // P3.3
	for _, n := range lengths(33) {
		l := leaves(n)
		for m := 0; m <= n; m++ {
			got, e := merkle.Proof(l, m)
			if e != api.OK || !slices.Equal(got, proof(l, m, true)) {
				t.Errorf("Proof of %d in %d leaves = %x, %d", m, n, got, e)
			}
		}
	}
	if got, e := merkle.Proof(nil, 0); e != api.OK || len(got) != 0 {
		t.Errorf("Proof in nil = %x, %d", got, e)
	}
}

func TestProofErrors(t *testing.T) { // P3.3
	for n := range 10 {
		for _, m := range []int{-1, -2, n + 1, 2*n + 1, math.MinInt, math.MaxInt} {
			if got, e := merkle.Proof(leaves(n), m); e != api.ErrArg || len(got) != 0 {
				t.Errorf("Proof of %d in %d leaves = %x, %d", m, n, got, e)
			}
		}
	}
}

func TestExtends(t *testing.T) { // P3.3
	for _, n := range lengths(24) {
		l := leaves(n)
		for m := 0; m <= n; m++ {
			if !merkle.Extends(root(l[:m]), m, root(l), n, proof(l, m, true)) {
				t.Errorf("Extends rejects %d in %d leaves", m, n)
			}
		}
	}
}

func TestExtendsNothing(t *testing.T) { // P3.3
	a := leaves(1)[0]
	for _, n := range []int{1, 2, 5, 1 << 40, math.MaxInt} {
		if !merkle.Extends(nothing, 0, a, n, nil) || !merkle.Extends(nothing, 0, api.Digest{}, n, []api.Digest{}) {
			t.Errorf("any root of %d leaves extends nothing", n)
		}
		if merkle.Extends(a, 0, a, n, nil) || merkle.Extends(api.Digest{}, 0, a, n, nil) {
			t.Errorf("a root that isn't that of no leaves, in %d", n)
		}
		if merkle.Extends(nothing, 0, a, n, []api.Digest{a}) {
			t.Errorf("a way that isn't empty, in %d", n)
		}
	}
	if !merkle.Extends(nothing, 0, nothing, 0, nil) {
		t.Error("nothing extends nothing")
	}
	if merkle.Extends(nothing, 0, a, 0, nil) || merkle.Extends(a, 0, nothing, 0, nil) || merkle.Extends(a, 0, a, 0, nil) {
		t.Error("no leaves have no other root")
	}
	if merkle.Extends(nothing, 0, nothing, 0, []api.Digest{nothing}) {
		t.Error("no leaves need no digest")
	}
}

func TestExtendsItself(t *testing.T) { // P3.3
	l := leaves(2)
	for _, n := range []int{1, 2, 3, 1000, math.MaxInt} {
		if !merkle.Extends(l[0], n, l[0], n, nil) {
			t.Errorf("a root of %d leaves doesn't extend itself", n)
		}
		if merkle.Extends(l[0], n, l[1], n, nil) {
			t.Errorf("two roots of %d leaves", n)
		}
		if merkle.Extends(l[0], n, l[0], n, l[:1]) {
			t.Errorf("a way of one digest from %d to itself", n)
		}
	}
}

func TestExtendsOrder(t *testing.T) { // P3.3
	for _, c := range [][2]int{{-1, 0}, {-1, 5}, {-1, -1}, {-2, -1}, {1, 0}, {0, -1}, {6, 5}, {math.MinInt, math.MaxInt}, {math.MaxInt, math.MinInt}, {math.MinInt, math.MinInt}, {math.MaxInt, 5}} {
		if merkle.Extends(nothing, c[0], nothing, c[1], nil) {
			t.Errorf("%d leaves extend %d", c[1], c[0])
		}
	}
	l := leaves(6)
	if merkle.Extends(root(l), 6, root(l[:4]), 4, proof(l, 4, true)) {
		t.Error("a list extends a longer one")
	}
}

func TestExtendsRejectsChanges(t *testing.T) { // P3.3, P3.5
	for n := 1; n <= 18; n++ {
		l := leaves(n)
		top := root(l)
		for m := 1; m <= n; m++ {
			old, way := root(l[:m]), proof(l, m, true)
			for k := range 256 {
				if merkle.Extends(changed(old, k), m, top, n, way) {
					t.Errorf("another old root: bit %d, %d in %d", k, m, n)
				}
				if merkle.Extends(old, m, changed(top, k), n, way) {
					t.Errorf("another root: bit %d, %d in %d", k, m, n)
				}
			}
			for j := range way {
				other := slices.Clone(way)
				other[j] = changed(way[j], m+j)
				if merkle.Extends(old, m, top, n, other) {
					t.Errorf("another way: step %d, %d in %d", j, m, n)
				}
			}
		}
	}
}

func TestExtendsRejectsLengths(t *testing.T) { // P3.3
	for n := 1; n <= 18; n++ {
		l := leaves(n)
		top := root(l)
		for m := 1; m <= n; m++ {
			old, way := root(l[:m]), proof(l, m, true)
			for k := range way {
				if merkle.Extends(old, m, top, n, way[:k]) || merkle.Extends(old, m, top, n, way[k+1:]) {
					t.Errorf("a way too short, %d in %d", m, n)
				}
			}
			for _, d := range []api.Digest{old, top, l[0], {}} {
				for k := 0; k <= len(way); k++ {
					if merkle.Extends(old, m, top, n, slices.Insert(slices.Clone(way), k, d)) {
						t.Errorf("a way too long, %d in %d", m, n)
					}
				}
			}
		}
	}
	// A way too short doesn't lead to the zero digest.
	if merkle.Extends(api.Digest{}, 1, api.Digest{}, 2, nil) || merkle.Extends(api.Digest{}, 3, api.Digest{}, 4, nil) {
		t.Error("zeros without a way")
	}
	long := slices.Repeat([]api.Digest{nothing}, 100000)
	if merkle.Extends(nothing, 3, nothing, math.MaxInt, long) {
		t.Error("a way of 100000 digests")
	}
}

func TestExtendsOtherSizes(t *testing.T) { // P3.3
	const n = 12
	l := leaves(n)
	for m := 1; m < n; m++ {
		old, way := root(l[:m]), proof(l, m, true)
		for k := 1; k < n; k++ {
			if merkle.Extends(old, k, root(l), n, way) != (k == m) {
				t.Errorf("the root of %d leaves as that of %d", m, k)
			}
		}
	}
}

func TestExtendsNeedsNoList(t *testing.T) { // P3.3
	long := leaves(70)
	for _, n := range great() {
		for _, m := range within(n - 1) {
			if m == 0 {
				continue
			}
			found := 0
			for k := range long {
				old := nothing
				// First with a wrong old root, to learn which one follows from the way.
				first, _, _ := extended(old, m, n, long[:k])
				if bits.OnesCount64(uint64(m)) > 1 {
					old = first
				}
				first, all, ok := extended(old, m, n, long[:k])
				ok = ok && first == old
				if got := merkle.Extends(old, m, all, n, long[:k]); got != ok {
					t.Fatalf("%d in %d with %d digests: %t", m, n, k, got)
				}
				if ok {
					found++
				}
			}
			if found != 1 {
				t.Fatalf("%d in %d: %d ways are accepted", m, n, found)
			}
		}
	}
}

// pool is all digests that stand in the tree of l, and two that don't.
func pool(l []api.Digest) []api.Digest {
	all := []api.Digest{{}, nothing}
	for i := range l {
		for j := i + 1; j <= len(l); j++ {
			all = append(all, root(l[i:j]))
		}
	}
	return all
}

// ways are all ways of at most so many digests out of a pool.
func ways(from []api.Digest, most int) [][]api.Digest {
	all := [][]api.Digest{nil}
	last := all
	for range most {
		var next [][]api.Digest
		for _, w := range last {
			for _, d := range from {
				next = append(next, append(slices.Clone(w), d))
			}
		}
		all, last = append(all, next...), next
	}
	return all
}

func TestCheckIsSound(t *testing.T) { // P3.5
	for n := 1; n <= 4; n++ {
		l := leaves(n)
		from := pool(l)
		for _, way := range ways(from, 3) {
			for i := range n {
				for _, d := range from {
					if merkle.Check(root(l), n, i, d, way) && (d != l[i] || !slices.Equal(way, path(l, i))) {
						t.Errorf("%x is accepted at %d of %d by %x", d, i, n, way)
					}
				}
			}
		}
	}
}

func TestExtendsIsSound(t *testing.T) { // P3.5
	long := leaves(4)
	others := append([]api.Digest{long[1], long[0]}, long[2:]...)
	for n := 1; n <= 4; n++ {
		l := long[:n]
		for _, way := range ways(pool(l), 3) {
			for m := 1; m <= n; m++ {
				if merkle.Extends(root(others[:m]), m, root(l), n, way) {
					t.Errorf("%d leaves extend %d others by %x", n, m, way)
				}
				if merkle.Extends(root(l[:m]), m, root(l), n, way) && !slices.Equal(way, proof(l, m, true)) {
					t.Errorf("%d leaves extend %d by %x", n, m, way)
				}
			}
		}
	}
}

func TestAnInnerNodeIsNoLeaf(t *testing.T) { // P3.5
	l := leaves(8)
	inner := root(l[:2])
	if merkle.Check(root(l), 8, 0, inner, []api.Digest{root(l[2:4]), root(l[4:])}) {
		t.Error("a node of two leaves is accepted as a leaf of eight")
	}
}

// tops is the roots of the complete subtrees of l.
func tops(l []api.Digest) []api.Digest {
	var all []api.Digest
	for k := 62; k >= 0; k-- {
		if len(l)>>k&1 == 1 {
			all = append(all, root(l[:1<<k]))
			l = l[1<<k:]
		}
	}
	return all
}

// same says whether f is a frontier of l.
func same(t *testing.T, f *merkle.Frontier, l []api.Digest) {
	t.Helper()
	if f.Size() != len(l) || f.Root() != root(l) || !slices.Equal(f.Tops(), tops(l)) {
		t.Errorf("a frontier of %d leaves: size %d, root %x, tops %x", len(l), f.Size(), f.Root(), f.Tops())
	}
}

func TestFrontier(t *testing.T) { // P3.4
	l := leaves(300)
	f := merkle.New()
	same(t, f, nil)
	for i, d := range l {
		if e := f.Add(d); e != api.OK {
			t.Fatalf("Add = %d", e)
		}
		same(t, f, l[:i+1])
	}
}

func TestLoad(t *testing.T) { // P3.4
	l := leaves(140)
	for n := range 70 {
		f, e := merkle.Load(n, tops(l[:n]))
		if e != api.OK {
			t.Fatalf("Load of %d leaves = %d", n, e)
		}
		same(t, f, l[:n])
		for k := n; k < 140; k++ {
			f.Add(l[k])
		}
		same(t, f, l)
	}
	if f, e := merkle.Load(0, nil); e != api.OK || f.Root() != nothing || f.Add(l[0]) != api.OK || f.Root() != l[0] {
		t.Error("Load of no leaves")
	}
}

func TestLoadErrors(t *testing.T) { // P3.4
	l := leaves(65)
	for _, n := range []int{-1, -2, math.MinInt} {
		for k := range l {
			if f, e := merkle.Load(n, l[:k]); e != api.ErrArg || f != nil {
				t.Errorf("Load(%d) of %d tops = %d", n, k, e)
			}
		}
	}
	for _, n := range append(great(), 0, 1, 2, 3, 4, 5, 6, 7, 8, 255, 256) {
		for k := range l {
			want := api.ErrForm
			if k == bits.OnesCount64(uint64(n)) {
				want = api.OK
			}
			if f, e := merkle.Load(n, l[:k]); e != want || (f == nil) != (e != api.OK) {
				t.Errorf("Load(%d) of %d tops = %d", n, k, e)
			}
		}
	}
}

func TestAddLimit(t *testing.T) { // P3.4
	l := leaves(63)
	f, e := merkle.Load(math.MaxInt-1, l[:62])
	if e != api.OK || f.Add(l[62]) != api.OK {
		t.Fatal("the last leaf")
	}
	if f.Size() != math.MaxInt || !slices.Equal(f.Tops(), l) {
		t.Error("the frontier of 2^63 - 1 leaves")
	}
	top := f.Root()
	for range 2 {
		if e := f.Add(l[0]); e != api.ErrLimit {
			t.Errorf("Add beyond 2^63 - 1 leaves = %d", e)
		}
	}
	if f.Size() != math.MaxInt || f.Root() != top || !slices.Equal(f.Tops(), l) {
		t.Error("an Add that is rejected changes the frontier")
	}
}

func TestGreatFrontiers(t *testing.T) { // P3.4
	l := leaves(63)
	f, _ := merkle.Load(1<<62-1, l[:62])
	want := l[62]
	for _, d := range slices.Backward(l[:62]) {
		want = node(d, want)
	}
	if f.Add(l[62]) != api.OK || f.Size() != 1<<62 || f.Root() != want || !slices.Equal(f.Tops(), []api.Digest{want}) {
		t.Error("a leaf that completes a tree of 2^62")
	}
	f, _ = merkle.Load(math.MaxInt, l)
	want = l[62]
	for _, d := range slices.Backward(l[:62]) {
		want = node(d, want)
	}
	if f.Root() != want {
		t.Error("the root of 63 tops")
	}
}

func TestNilFrontier(t *testing.T) { // P3.4, R1
	var f *merkle.Frontier
	if f.Add(nothing) != api.ErrNil || f.Size() != 0 || f.Root() != nothing || len(f.Tops()) != 0 {
		t.Error("a nil frontier")
	}
}

func TestUnmadeFrontierPanicsNowhere(t *testing.T) { // R1
	f := new(merkle.Frontier)
	for i := range 9 {
		f.Size()
		f.Tops()
		f.Root()
		f.Add(leaves(9)[i])
	}
}

func TestFrontiersAreApart(t *testing.T) { // P3.4, R3
	l := leaves(20)
	for n := range 16 {
		given := append(tops(l[:n]), nothing, nothing)
		own := given[:len(given)-2]
		f, _ := merkle.Load(n, own)
		g, _ := merkle.Load(n, own)
		f.Add(l[n])
		f.Add(l[n+1])
		same(t, g, l[:n])
		if !slices.Equal(given, append(tops(l[:n]), nothing, nothing)) {
			t.Errorf("Load of %d leaves or Add changes its argument", n)
		}
		clear(given)
		same(t, f, l[:n+2])
		same(t, g, l[:n])
	}
}

func TestTopsAreNewMemory(t *testing.T) { // P3.4, R3
	l := leaves(8)
	f := merkle.New()
	for n, d := range l {
		got := f.Tops()
		clear(got[:cap(got)])
		same(t, f, l[:n])
		held := f.Tops()
		f.Add(d)
		if !slices.Equal(held, tops(l[:n])) {
			t.Error("Add changes what Tops answered")
		}
	}
}

func TestArgumentsStay(t *testing.T) { // R3
	for n := 1; n <= 17; n++ {
		whole := leaves(n + 4)
		l := whole[:n]
		for i := range n {
			way, _ := merkle.Path(l, i)
			more, _ := merkle.Proof(l, i)
			roomy := append(slices.Clone(way), nothing, nothing)
			merkle.Check(root(l), n, i, l[i], roomy[:len(way)])
			if !slices.Equal(roomy, append(slices.Clone(way), nothing, nothing)) {
				t.Error("Check changes its way")
			}
			roomy = append(slices.Clone(more), nothing, nothing)
			merkle.Extends(root(l[:i]), i, root(l), n, roomy[:len(more)])
			if !slices.Equal(roomy, append(slices.Clone(more), nothing, nothing)) {
				t.Error("Extends changes its way")
			}
			clear(way[:cap(way)])
			clear(more[:cap(more)])
		}
		merkle.Root(l)
		if !slices.Equal(whole, leaves(n+4)) {
			t.Errorf("a list of %d leaves was changed", n)
		}
	}
	p := []byte("abcd")
	merkle.Leaf(p[:2])
	if string(p) != "abcd" {
		t.Error("Leaf changes its argument")
	}
}

func TestExamples(t *testing.T) { // P3.1 to P3.4
	l := leaves(4)
	a, b, c, d := l[0], l[1], l[2], l[3]
	ab := merkle.Node(a, b)
	if merkle.Root(l[:3]) != merkle.Node(ab, c) {
		t.Error("the root of a, b, c")
	}
	for _, x := range []struct {
		n, i int
		want []api.Digest
	}{{3, 2, []api.Digest{ab}}, {3, 0, []api.Digest{b, c}}} {
		if got, e := merkle.Path(l[:x.n], x.i); e != api.OK || !slices.Equal(got, x.want) {
			t.Errorf("the path of %d in %d", x.i, x.n)
		}
	}
	for _, x := range []struct {
		n, m int
		want []api.Digest
	}{{3, 2, []api.Digest{c}}, {4, 3, []api.Digest{c, d, ab}}, {3, 3, nil}} {
		if got, e := merkle.Proof(l[:x.n], x.m); e != api.OK || !slices.Equal(got, x.want) {
			t.Errorf("the proof of %d in %d", x.m, x.n)
		}
	}
	f := merkle.New()
	for _, x := range l[:3] {
		f.Add(x)
	}
	if !slices.Equal(f.Tops(), []api.Digest{ab, c}) {
		t.Error("the tops of three leaves")
	}
}
