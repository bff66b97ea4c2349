package blob_test

import (
	"bytes"
	"crypto/sha256"
	"encoding/hex"
	"maps"
	"slices"
	"strings"
	"testing"

	"hallmark/api"
	"hallmark/blob"
	"hallmark/disk"
)

// sum is the oracle of a text's digest, with the library's hash.
func sum(p string) api.Digest { return sha256.Sum256([]byte(p)) }

// named is the oracle of File.
func named(d api.Digest) string { return "b/" + hex.EncodeToString(d[:]) }

// file is the name of the file of a text's digest.
func file(p string) string { return named(sum(p)) }

// ordered are digests in byte order.
func ordered(l []api.Digest) []api.Digest {
	return slices.SortedFunc(slices.Values(l), func(a, b api.Digest) int { return bytes.Compare(a[:], b[:]) })
}

// sums are the digests of texts, in byte order.
func sums(texts ...string) []api.Digest {
	var l []api.Digest
	for _, p := range texts {
		l = append(l, sum(p))
	}
	return ordered(l)
}

// must reports it unless e is OK.
func must(t *testing.T, e api.Errno) {
	t.Helper()
	if e != api.OK {
		t.Fatalf("error %d", e)
	}
}

// contents are the bytes of files by their names.
type contents map[string]string

// stored are the files of these texts.
func stored(texts ...string) contents {
	c := contents{}
	for _, p := range texts {
		c[file(p)] = p
	}
	return c
}

// and is these contents with another file.
func (c contents) and(name, p string) contents {
	c = maps.Clone(c)
	c[name] = p
	return c
}

// place is a disk and its store, which was opened when the disk was empty, so that it finds what a write left behind.
type place struct {
	d *disk.Disk
	s *blob.Store
}

// empty is a place where nothing is.
func empty(t *testing.T, room int) place {
	t.Helper()
	d, e := disk.New(room)
	must(t, e)
	return place{d, opened(t, d)}
}

// opened is the store on a disk.
func opened(t *testing.T, d *disk.Disk) *blob.Store {
	t.Helper()
	s, e := blob.New(d)
	if s == nil || e != api.OK {
		t.Fatalf("New: %v, %d", s, e)
	}
	return s
}

// laid is a place with these files, which last.
func laid(t *testing.T, room int, files contents) place {
	t.Helper()
	x := empty(t, room)
	for _, name := range slices.Sorted(maps.Keys(files)) {
		must(t, x.d.Create(name))
		for b := range slices.Chunk([]byte(files[name]), api.MaxRecord) {
			must(t, x.d.Append(name, b))
		}
	}
	must(t, x.d.Sync())
	return x
}

// off is a place with these files where the power is off.
func off(t *testing.T, files contents) place {
	t.Helper()
	x := laid(t, 1000, files)
	must(t, x.d.Fuse(0))
	if e := x.d.Sync(); e != api.ErrDown {
		t.Fatalf("Sync: %d", e)
	}
	return x
}

// held are the files of a disk.
func held(t *testing.T, d *disk.Disk) contents {
	t.Helper()
	names, e := d.Names("")
	must(t, e)
	c := contents{}
	for _, s := range names {
		b, e := d.Read(s, 0, api.MaxRoom)
		must(t, e)
		c[s] = string(b)
	}
	return c
}

// holds reports it unless these are the files of the place, and all of that lasts.
func (x place) holds(t *testing.T, want contents) {
	t.Helper()
	if got := held(t, x.d); !maps.Equal(got, want) {
		t.Errorf("the disk has %.300q, not %.300q", got, want)
	}
	if x.d.Loose() != 0 {
		t.Errorf("%d loose", x.d.Loose())
	}
}

// has reports it unless the store shows just these texts.
func has(t *testing.T, s *blob.Store, texts ...string) {
	t.Helper()
	if l, e := s.List(); e != api.OK || !slices.Equal(l, sums(texts...)) {
		t.Fatalf("List: %x, %d, not those of %.300q", l, e, texts)
	}
	for _, p := range texts {
		if n, e := s.Size(sum(p)); n != len(p) || e != api.OK {
			t.Fatalf("Size: %d, %d, not %d", n, e, len(p))
		}
		if b, e := s.Read(sum(p), 0, len(p)); string(b) != p || e != api.OK {
			t.Fatalf("Read: %.100q, %d, not %.100q", b, e, p)
		}
		if !s.Whole(sum(p)) {
			t.Fatalf("%.100q is not whole", p)
		}
	}
}

// puts, deletes and adopts are calls of a place's store.
func puts(t *testing.T, p string) func(x place) api.Errno {
	return func(x place) api.Errno {
		got, e := x.s.Put([]byte(p))
		want := sum(p)
		if e != api.OK {
			want = api.Digest{}
		}
		if got != want {
			t.Fatalf("Put: %x, %d", got, e)
		}
		return e
	}
}

func deletes(d api.Digest) func(x place) api.Errno {
	return func(x place) api.Errno { return x.s.Delete(d) }
}

func adopts(name string, d api.Digest) func(x place) api.Errno {
	return func(x place) api.Errno { return x.s.Adopt(name, d) }
}

// step is something that is done on a disk.
type step func(d *disk.Disk) api.Errno

func create(name string) step { return func(d *disk.Disk) api.Errno { return d.Create(name) } }
func remove(name string) step { return func(d *disk.Disk) api.Errno { return d.Remove(name) } }
func add(name, p string) step {
	return func(d *disk.Disk) api.Errno { return d.Append(name, []byte(p)) }
}
func rename(from, to string) step {
	return func(d *disk.Disk) api.Errno { return d.Rename(from, to) }
}
func sync(d *disk.Disk) api.Errno { return d.Sync() }

// performs reports it unless a call on a place with these files performs just these steps, and answers so when it has performed them, seen from wherever the power goes and whatever survives. The place is made anew each time, once with changes that don't last.
func performs(t *testing.T, room int, files contents, call func(x place) api.Errno, want api.Errno, steps ...step) {
	t.Helper()
	for _, loose := range [][]step{nil, {create("loose"), add("loose", "")}} {
		for n := range len(steps) + 2 {
			for keep := range len(loose) + len(steps) + 2 {
				for _, part := range []int{0, 1, 2, 1 << 20} {
					a, b := pair(t, laid(t, room, files), laid(t, room, files), loose, call, want, n, steps)
					must(t, a.Crash(keep, part))
					must(t, b.Crash(keep, part))
					if x, y := held(t, a), held(t, b); !maps.Equal(x, y) {
						t.Fatalf("%d of %d steps, Crash(%d, %d): %.300q, not %.300q", n, len(steps), keep, part, x, y)
					}
				}
			}
		}
	}
}

// pair are the disks of two places that are alike: in one the call is made, with power for n steps; in the other one so many of these steps are performed. It is reported unless these are as many as the call performs.
func pair(t *testing.T, x, y place, loose []step, call func(x place) api.Errno, want api.Errno, n int, steps []step) (a, b *disk.Disk) {
	t.Helper()
	a, b = x.d, y.d
	for _, s := range loose {
		must(t, s(a))
		must(t, s(b))
	}
	must(t, a.Fuse(n))
	e := call(x)
	for _, s := range steps[:min(n, len(steps))] {
		must(t, s(b))
	}
	if n < len(steps) {
		want = api.ErrDown
	}
	if e != want || a.Down() != (n < len(steps)) || a.Loose() != b.Loose() || a.Used() != b.Used() {
		t.Fatalf("%d of %d steps: %d, not %d; Down: %v; %d loose, %d bytes, not %d, %d", n, len(steps), e, want, a.Down(), a.Loose(), a.Used(), b.Loose(), b.Used())
	}
	return a, b
}

func TestOracle(t *testing.T) { // the examples of the chapters hold for what the other tests hold the package against
	if got := file("abc"); !strings.HasPrefix(got, "b/ba7816bf") || !strings.HasSuffix(got, "f20015ad") || len(got) != 66 {
		t.Errorf("file: %q", got)
	}
	if got := file(""); got != "b/e3b0c44298fc1c149afbf4c8996fb92427ae41e4649b934ca495991b7852b855" {
		t.Errorf("file: %q", got)
	}
	if l := sums("", "abc"); !slices.Equal(l, []api.Digest{sum("abc"), sum("")}) {
		t.Errorf("sums: %x", l)
	}
}
