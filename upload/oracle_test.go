package upload_test

import (
	"bytes"
	"crypto/sha256"
	"encoding/binary"
	"fmt"
	"maps"
	"math"
	"slices"
	"testing"

	"hallmark/api"
	"hallmark/blob"
	"hallmark/disk"
	"hallmark/table"
	"hallmark/upload"
)

// sum is the oracle of a text's digest, with the library's hash.
func sum(p string) api.Digest { return sha256.Sum256([]byte(p)) }

// file is the oracle of the name of the file of a text's digest.
func file(p string) string { return fmt.Sprintf("b/%x", sha256.Sum256([]byte(p))) }

// key is the oracle of Key.
func key(id int) string { return fmt.Sprintf("u/%08x", uint32(id)) }

// open is the oracle of the value of an upload that is not ending.
func open(repo string, until int) string {
	return "\x00" + string(binary.BigEndian.AppendUint64(nil, uint64(until))) + repo
}

// ending is the oracle of the value of an upload that ends with the digest of a text.
func ending(p, repo string, until int) string {
	d := sum(p)
	return "\x20" + string(d[:]) + open(repo, until)[1:]
}

// next is the oracle of the value of the next id.
func next(id int) string { return string(binary.BigEndian.AppendUint64(nil, uint64(id))) }

func set(key, value string) table.Change { return table.Change{Key: key, Value: []byte(value)} }
func gone(key string) table.Change       { return table.Change{Key: key, Gone: true} }

// must reports it unless e is OK.
func must(t *testing.T, e api.Errno) {
	t.Helper()
	if e != api.OK {
		t.Fatalf("error %d", e)
	}
}

// contents are the bytes of files by their names, or values by their keys.
type contents map[string]string

// and is these contents with another one.
func (c contents) and(name, p string) contents {
	c = maps.Clone(c)
	if c == nil {
		c = contents{}
	}
	c[name] = p
	return c
}

// place is a disk with all that stands on it.
type place struct {
	d *disk.Disk
	s *blob.Store
	t *table.Table
	u *upload.Uploads
}

// bare is a place without uploads yet, with these files and this table.
func bare(t *testing.T, room int, files, values contents) place {
	t.Helper()
	d, e := disk.New(room)
	must(t, e)
	x := place{d: d}
	for _, name := range slices.Sorted(maps.Keys(files)) {
		must(t, d.Create(name))
		for b := range slices.Chunk([]byte(files[name]), api.MaxRecord) {
			must(t, d.Append(name, b))
		}
	}
	must(t, d.Sync())
	x.s, e = blob.New(d)
	must(t, e)
	x.t, e = table.Open(d, "t")
	must(t, e)
	for _, k := range slices.Sorted(maps.Keys(values)) {
		must(t, x.t.Apply(set(k, values[k])))
	}
	return x
}

// laid is a place with these files and this table.
func laid(t *testing.T, room int, files, values contents) place {
	t.Helper()
	x := bare(t, room, files, values)
	must(t, x.open())
	return x
}

// empty is a place where nothing is.
func empty(t *testing.T, room int) place { return laid(t, room, nil, nil) }

// open is the opening of a place's uploads.
func (x *place) open() api.Errno {
	u, e := upload.Open(x.d, x.s, x.t)
	if (u == nil) != (e != api.OK) {
		return -1
	}
	x.u = u
	return e
}

// opened is all that stands on a disk, opened anew.
func opened(t *testing.T, d *disk.Disk) place {
	t.Helper()
	x, e := reopened(d)
	if e != api.OK {
		t.Fatalf("opened anew: %d", e)
	}
	return x
}

// reopened is all that stands on a disk, up to the first error.
func reopened(d *disk.Disk) (x place, e api.Errno) {
	x.d = d
	if x.s, e = blob.New(d); e != api.OK {
		return x, e
	}
	if x.t, e = table.Open(d, "t"); e != api.OK {
		return x, e
	}
	return x, x.open()
}

// off takes the power away.
func (x place) off(t *testing.T) place {
	t.Helper()
	must(t, x.d.Fuse(0))
	if e := x.d.Sync(); e != api.ErrDown {
		t.Fatalf("Sync: %d", e)
	}
	return x
}

// held are the files of a disk.
func held(t *testing.T, d *disk.Disk) contents {
	t.Helper()
	names, e := d.Names("")
	must(t, e)
	c := contents{}
	for _, s := range names {
		b, e := d.Read(s, 0, api.MaxRoom)
		must(t, e)
		c[s] = string(b)
	}
	return c
}

// files are the files of a place but the table's.
func (x place) files(t *testing.T) contents {
	t.Helper()
	c := held(t, x.d)
	delete(c, "t")
	return c
}

// values are what a place's table shows.
func (x place) values() contents {
	c := contents{}
	for _, k := range x.t.Keys("", "", math.MaxInt) {
		v, _ := x.t.Get(k)
		c[k] = string(v)
	}
	return c
}

// holds reports it unless these are the files and the table of the place, and all of that lasts.
func (x place) holds(t *testing.T, files, values contents) {
	t.Helper()
	if got := x.files(t); !maps.Equal(got, files) {
		t.Errorf("the disk has %.300q, not %.300q", got, files)
	}
	if got := x.values(); !maps.Equal(got, values) {
		t.Errorf("the table has %.300q, not %.300q", got, values)
	}
	if x.d.Loose() != 0 {
		t.Errorf("%d loose", x.d.Loose())
	}
}

// shows reports it unless Look and List tell of just these uploads.
func (x place) shows(t *testing.T, want map[int]upload.Session) {
	t.Helper()
	ids := slices.Sorted(maps.Keys(want))
	if got := x.u.List(); !slices.Equal(got, ids) {
		t.Fatalf("List: %d, not %d", got, ids)
	}
	for _, id := range ids {
		if got, e := x.u.Look(id); got != want[id] || e != api.OK {
			t.Fatalf("Look(%d): %v, %d, not %v", id, got, e, want[id])
		}
	}
}

// starts and patches are calls that must succeed.
func (x place) starts(t *testing.T, repo string, until, want int) {
	t.Helper()
	if id, e := x.u.Start(repo, until); id != want || e != api.OK {
		t.Fatalf("Start: %d, %d, not %d", id, e, want)
	}
}

func (x place) patches(t *testing.T, id int, pieces ...string) {
	t.Helper()
	s, e := x.u.Look(id)
	must(t, e)
	for _, p := range pieces {
		if e := x.u.Patch(id, s.Size, []byte(p)); e != api.OK {
			t.Fatalf("Patch(%d, %d, %.20q): %d", id, s.Size, p, e)
		}
		s.Size += len(p)
	}
}

// deed is something that is done in a place.
type deed func(x *place) api.Errno

func start(repo string, until int) deed {
	return func(x *place) api.Errno {
		id, e := x.u.Start(repo, until)
		if (id == 0) != (e != api.OK) {
			return -1
		}
		return e
	}
}
func patch(id, at int, p string) deed {
	return func(x *place) api.Errno { return x.u.Patch(id, at, []byte(p)) }
}
func finish(id int, p string, more ...table.Change) deed {
	return func(x *place) api.Errno { return x.u.Finish(id, sum(p), more...) }
}
func cancel(id int) deed { return func(x *place) api.Errno { return x.u.Cancel(id) } }
func expire(now, want int) deed {
	return func(x *place) api.Errno {
		n, e := x.u.Expire(now)
		if e == api.OK && n != want || e != api.OK && n != 0 {
			return -1
		}
		return e
	}
}
func opens(x *place) api.Errno { return x.open() }

// The steps of the chapter, done with the layers below.
func creates(name string) deed { return func(x *place) api.Errno { return x.d.Create(name) } }
func appends(name, p string) deed {
	return func(x *place) api.Errno { return x.d.Append(name, []byte(p)) }
}
func removes(name string) deed { return func(x *place) api.Errno { return x.d.Remove(name) } }
func syncs(x *place) api.Errno { return x.d.Sync() }
func applies(l ...table.Change) deed {
	return func(x *place) api.Errno { return x.t.Apply(l...) }
}
func adopts(id int, p string) deed {
	return func(x *place) api.Errno { return x.s.Adopt(key(id), sum(p)) }
}

// counts is a step whose error that is named counts as OK.
func counts(e api.Errno, do deed) deed {
	return func(x *place) api.Errno {
		if got := do(x); got != e {
			return got
		}
		return api.OK
	}
}

// closes are the steps that close an upload.
func closes(id int, p string) deed {
	return inOrder(counts(api.ErrNone, adopts(id, p)), counts(api.ErrFull, applies(gone(key(id)))))
}

// inOrder are steps up to the first one that has an error.
func inOrder(steps ...deed) deed {
	return func(x *place) api.Errno {
		for _, do := range steps {
			if e := do(x); e != api.OK {
				return e
			}
		}
		return api.OK
	}
}

// alike reports it unless a call performs the same steps as a deed, and answers the same, seen from wherever the power goes and whatever survives. The place is made anew each time, once with changes that don't last.
func alike(t *testing.T, begin func() place, call, want deed) {
	t.Helper()
	for _, loose := range []deed{inOrder(), inOrder(creates("loose"), appends("loose", ""))} {
		for n, down := 0, true; down; n++ {
			for keep := range n + 4 {
				for _, part := range []int{0, 1, 9, 1 << 20} {
					a, b := begin(), begin()
					must(t, loose(&a))
					must(t, loose(&b))
					must(t, a.d.Fuse(n))
					must(t, b.d.Fuse(n))
					e, f := call(&a), want(&b)
					down = b.d.Down()
					if e != f || a.d.Down() != down || a.d.Loose() != b.d.Loose() || a.d.Used() != b.d.Used() || !maps.Equal(a.values(), b.values()) {
						t.Fatalf("%d steps: %d, not %d; Down: %v, not %v; %d loose, %d bytes, not %d, %d; %q, not %q",
							n, e, f, a.d.Down(), down, a.d.Loose(), a.d.Used(), b.d.Loose(), b.d.Used(), a.values(), b.values())
					}
					must(t, a.d.Crash(keep, part))
					must(t, b.d.Crash(keep, part))
					if x, y := held(t, a.d), held(t, b.d); !maps.Equal(x, y) {
						t.Fatalf("%d steps, Crash(%d, %d): %.300q, not %.300q", n, keep, part, x, y)
					}
				}
			}
		}
	}
}

// refuses reports it unless a call has just this error, without a step.
func refuses(t *testing.T, begin func() place, call deed, want api.Errno) {
	t.Helper()
	alike(t, begin, call, func(*place) api.Errno { return want })
	x := begin()
	must(t, x.d.Fuse(0))
	if e := call(&x); e != want {
		t.Fatalf("%d, not %d", e, want)
	}
}

func TestOracle(t *testing.T) { // the examples of the chapters hold for what the other tests hold the package against
	if key(1) != "u/00000001" || key(-1) != "u/ffffffff" || key(1<<32+10) != "u/0000000a" {
		t.Errorf("key: %q, %q, %q", key(1), key(-1), key(1<<32+10))
	}
	if got := open("a", 258); got != "\x00\x00\x00\x00\x00\x00\x00\x01\x02a" {
		t.Errorf("open: %q", got)
	}
	if got := ending("abc", "a/b", 9); len(got) != 1+32+8+3 || got[0] != 32 || !bytes.HasPrefix([]byte(got[1:]), []byte("\xba\x78\x16\xbf")) || got[33:] != "\x00\x00\x00\x00\x00\x00\x00\x09a/b" {
		t.Errorf("ending: %q", got)
	}
	if got := next(1 << 32); got != "\x00\x00\x00\x01\x00\x00\x00\x00" {
		t.Errorf("next: %q", got)
	}
}
