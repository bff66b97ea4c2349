package taglog_test

import (
	"crypto/sha256"
	"fmt"
	"maps"
	"math"
	"slices"
	"testing"

	"hallmark/api"
	"hallmark/disk"
	"hallmark/merkle"
	"hallmark/table"
	"hallmark/taglog"
)

// key is the oracle of Key.
func key(i int) string { return fmt.Sprintf("g/%08x", uint32(i)) }

// leaves is the oracle of the leaves of entries, with the library's hash.
func leaves(entries []string) []api.Digest {
	var l []api.Digest
	for _, p := range entries {
		l = append(l, sha256.Sum256([]byte("\x00"+p)))
	}
	return l
}

// root is the oracle of the root of leaves, a level of the tree at a time.
func root(l []api.Digest) api.Digest {
	if len(l) == 0 {
		return sha256.Sum256(nil)
	}
	for len(l) > 1 {
		var up []api.Digest
		for pair := range slices.Chunk(l, 2) {
			if len(pair) == 2 {
				pair = []api.Digest{sha256.Sum256(slices.Concat([]byte{1}, pair[0][:], pair[1][:]))}
			}
			up = append(up, pair[0])
		}
		l = up
	}
	return l[0]
}

func set(key, value string) table.Change { return table.Change{Key: key, Value: []byte(value)} }
func gone(key string) table.Change       { return table.Change{Key: key, Gone: true} }

// contents are values by keys.
type contents map[string]string

// after is what changes make of contents.
func after(c contents, l ...table.Change) contents {
	c = maps.Clone(c)
	if c == nil {
		c = contents{}
	}
	for _, x := range l {
		if delete(c, x.Key); !x.Gone {
			c[x.Key] = string(x.Value)
		}
	}
	return c
}

// shown are the contents that a table shows.
func shown(x *table.Table) contents {
	c := contents{}
	for _, k := range x.Keys("", "", math.MaxInt) {
		v, _ := x.Get(k)
		c[k] = string(v)
	}
	return c
}

// must reports it unless e is OK.
func must(t *testing.T, e api.Errno) {
	t.Helper()
	if e != api.OK {
		t.Fatalf("error %d", e)
	}
}

func newDisk(t *testing.T, room int) *disk.Disk {
	t.Helper()
	d, e := disk.New(room)
	must(t, e)
	return d
}

// stored is the table of a disk, opened anew, after changes.
func stored(t *testing.T, d *disk.Disk, l ...table.Change) *table.Table {
	t.Helper()
	x, e := table.Open(d, "t")
	must(t, e)
	for some := range slices.Chunk(l, table.Most) {
		must(t, x.Apply(some...))
	}
	return x
}

// opened is the log of a table, which must have these entries.
func opened(t *testing.T, x *table.Table, entries ...string) *taglog.Log {
	t.Helper()
	l, e := taglog.Open(x)
	if l == nil || e != api.OK {
		t.Fatalf("Open: %v, %d", l, e)
	}
	has(t, l, entries...)
	return l
}

// fresh is an empty log in a new table of a new disk.
func fresh(t *testing.T, room int) (*disk.Disk, *table.Table, *taglog.Log) {
	t.Helper()
	d := newDisk(t, room)
	x := stored(t, d)
	return d, x, opened(t, x)
}

// outside are numbers that are no number of an entry, though some of them have the key of one, nor how many there are.
func outside(size int) []int {
	return []int{-1, -2, math.MinInt, math.MinInt32, -1 << 32, 1 << 32, 1<<32 + 1, 1 << 40, math.MaxInt, size + 1, size + 2, size + 256, api.MaxLog + 1}
}

// has reports it unless these are a log's entries, and its roots theirs.
func has(t *testing.T, l *taglog.Log, entries ...string) {
	t.Helper()
	if n := l.Size(); n != len(entries) {
		t.Fatalf("Size = %d, not %d", n, len(entries))
	}
	for i, want := range entries {
		if p, e := l.Entry(i); string(p) != want || e != api.OK {
			t.Fatalf("Entry(%d) of %d = %.99q, %d, not %.99q", i, len(entries), p, e, want)
		}
	}
	all := leaves(entries)
	for n := range len(entries) + 1 {
		if d, e := l.Root(n); d != root(all[:n]) || e != api.OK {
			t.Fatalf("Root(%d) of %d = %x, %d, not %x", n, len(entries), d, e, root(all[:n]))
		}
	}
}

// proves reports it unless a log with these entries answers all that can be asked of it as the functions of merkle do for their leaves.
func proves(t *testing.T, l *taglog.Log, entries ...string) {
	t.Helper()
	has(t, l, entries...)
	all := leaves(entries)
	numbers := append(outside(len(entries)), 0, len(entries))
	for i := range entries {
		numbers = append(numbers, i)
	}
	for _, i := range append(outside(len(entries)), len(entries)) {
		if p, e := l.Entry(i); len(p) != 0 || e != api.ErrArg {
			t.Fatalf("Entry(%d) of %d = %.99q, %d", i, len(entries), p, e)
		}
	}
	for _, n := range numbers {
		if n < 0 || n > len(entries) {
			refuses(t, l, n, numbers)
			continue
		}
		for _, i := range numbers {
			same(t, "Path", i, n, l.Path, func() ([]api.Digest, api.Errno) { return merkle.Path(all[:n], i) })
			same(t, "Proof", i, n, l.Proof, func() ([]api.Digest, api.Errno) { return merkle.Proof(all[:n], i) })
		}
	}
}

// refuses reports it unless a log that has not so many entries says so.
func refuses(t *testing.T, l *taglog.Log, n int, numbers []int) {
	t.Helper()
	if d, e := l.Root(n); d != (api.Digest{}) || e != api.ErrArg {
		t.Fatalf("Root(%d) = %x, %d", n, d, e)
	}
	for _, i := range numbers {
		same(t, "Path", i, n, l.Path, func() ([]api.Digest, api.Errno) { return nil, api.ErrArg })
		same(t, "Proof", i, n, l.Proof, func() ([]api.Digest, api.Errno) { return nil, api.ErrArg })
	}
}

// same reports it unless a way of a log is the one that is wanted.
func same(t *testing.T, name string, i, n int, ask func(i, n int) ([]api.Digest, api.Errno), want func() ([]api.Digest, api.Errno)) {
	t.Helper()
	got, e := ask(i, n)
	way, f := want()
	if !slices.Equal(got, way) || e != f {
		t.Fatalf("%s(%d, %d) = %x, %d, not %x, %d", name, i, n, got, e, way, f)
	}
}

// held are the bytes of all files of a disk.
func held(t *testing.T, d *disk.Disk) contents {
	t.Helper()
	names, e := d.Names("")
	must(t, e)
	c := contents{}
	for _, s := range names {
		b, e := d.Read(s, 0, api.MaxRoom)
		must(t, e)
		c[s] = string(b)
	}
	return c
}

// alike reports it unless two deeds on disks that are made anew each time perform the same steps and answer the same, seen from wherever the power goes and whatever survives.
func alike(t *testing.T, begin func() *disk.Disk, got, want func(d *disk.Disk) api.Errno) {
	t.Helper()
	for n, down := 0, true; down; n++ {
		for keep := range n + 2 {
			for _, part := range []int{0, 1, 9, 1 << 20} {
				a, b := begin(), begin()
				must(t, a.Fuse(n))
				must(t, b.Fuse(n))
				e, f := got(a), want(b)
				down = b.Down()
				if e != f || a.Down() != b.Down() || a.Loose() != b.Loose() || a.Used() != b.Used() {
					t.Fatalf("%d steps: %d, not %d; Down: %v, not %v; %d loose, %d bytes, not %d, %d", n, e, f, a.Down(), b.Down(), a.Loose(), a.Used(), b.Loose(), b.Used())
				}
				must(t, a.Crash(keep, part))
				must(t, b.Crash(keep, part))
				if x, y := held(t, a), held(t, b); !maps.Equal(x, y) {
					t.Fatalf("%d steps, Crash(%d, %d): %.300q, not %.300q", n, keep, part, x, y)
				}
			}
		}
	}
}

func TestOracle(t *testing.T) { // the definitions of chapters 3 and 15 hold for what the other tests hold the package against
	l := leaves([]string{"a", "b", "c"})
	if l[0] != merkle.Leaf([]byte("a")) || root(l[:1]) != l[0] || root(l) != merkle.Node(merkle.Node(l[0], l[1]), l[2]) || root(nil) != merkle.Root(nil) {
		t.Errorf("leaves, root: %x, %x", l, root(l))
	}
	if key(0) != "g/00000000" || key(0x12345678) != "g/12345678" || key(-1) != "g/ffffffff" || key(1<<32+10) != "g/0000000a" {
		t.Errorf("key: %s, %s", key(0), key(-1))
	}
}
