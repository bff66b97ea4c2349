package table_test

import (
	"bytes"
	"encoding/binary"
	"fmt"
	"maps"
	"math"
	"slices"
	"strings"
	"testing"

	"hallmark/api"
	"hallmark/disk"
	"hallmark/journal"
	"hallmark/table"
)

func set(key, value string) table.Change { return table.Change{Key: key, Value: []byte(value)} }
func gone(key string) table.Change       { return table.Change{Key: key, Gone: true} }

// record is the oracle of Encode, for changes that nothing is wrong with.
func record(l ...table.Change) []byte {
	b := binary.AppendUvarint(nil, uint64(len(l)))
	text := func(s string) { b = append(binary.AppendUvarint(b, uint64(len(s))), s...) }
	for _, c := range l {
		if c.Gone {
			b = append(b, 0)
			text(c.Key)
			continue
		}
		b = append(b, 1)
		text(c.Key)
		text(string(c.Value))
	}
	return b
}

// refusal is the oracle of Encode's error.
func refusal(l []table.Change) api.Errno {
	if len(l) > 256 {
		return api.ErrLimit
	}
	size := len(binary.AppendUvarint(nil, uint64(len(l))))
	for _, c := range l {
		if c.Key == "" || len(c.Key) > 320 || len(c.Value) > 262144 {
			return api.ErrArg
		}
		// The record of one change has one byte of Count.
		if size += len(record(c)) - 1; size > 1048576-8 {
			return api.ErrLimit
		}
	}
	return api.OK
}

// changes is the oracle of Decode: it reads whatever looks like a record, and accepts it if it is written so.
func changes(b []byte) ([]table.Change, bool) {
	rest, bad := b, false
	count := func() int {
		n, size := binary.Uvarint(rest)
		if size <= 0 || n > math.MaxInt32 {
			bad = true
			return 0
		}
		rest = rest[size:]
		return int(n)
	}
	text := func() string {
		n := count()
		if n > len(rest) {
			bad = true
			return ""
		}
		s := string(rest[:n])
		rest = rest[n:]
		return s
	}
	n := count()
	if n > 256 {
		return nil, false
	}
	var l []table.Change
	for range n {
		if len(rest) == 0 {
			return nil, false
		}
		kind := rest[0]
		rest = rest[1:]
		c := table.Change{Key: text(), Gone: kind != 1}
		if !c.Gone {
			c.Value = []byte(text())
		}
		if bad || c.Key == "" || len(c.Key) > 320 || len(c.Value) > 262144 {
			return nil, false
		}
		l = append(l, c)
	}
	return l, !bad && bytes.Equal(record(l...), b)
}

// same says whether two lists have the same changes.
func same(a, b []table.Change) bool {
	return slices.EqualFunc(a, b, func(x, y table.Change) bool {
		return x.Key == y.Key && x.Gone == y.Gone && bytes.Equal(x.Value, y.Value)
	})
}

// brief is a list of changes for a report.
func brief(l []table.Change) string {
	var b strings.Builder
	for _, c := range l {
		fmt.Fprintf(&b, "[%.20q %d %v %.20q %d]", c.Key, len(c.Key), c.Gone, c.Value, len(c.Value))
	}
	return fmt.Sprintf("%d: %.600s", len(l), b.String())
}

// contents are values by keys.
type contents map[string]string

// after is what changes make of contents.
func after(c contents, l ...table.Change) contents {
	c = maps.Clone(c)
	if c == nil {
		c = contents{}
	}
	for _, x := range l {
		if delete(c, x.Key); !x.Gone {
			c[x.Key] = string(x.Value)
		}
	}
	return c
}

// keys is the oracle of Keys.
func (c contents) keys(head, after string, most int) []string {
	var l []string
	for _, k := range slices.Sorted(maps.Keys(c)) {
		if len(l) < most && bytes.HasPrefix([]byte(k), []byte(head)) && bytes.Compare([]byte(k), []byte(after)) > 0 {
			l = append(l, k)
		}
	}
	return l
}

// shown are the contents that a table shows.
func shown(t *testing.T, x *table.Table) contents {
	t.Helper()
	c := contents{}
	l := x.Keys("", "", math.MaxInt)
	for _, k := range l {
		v, ok := x.Get(k)
		if !ok {
			t.Fatalf("Keys tells %q, and Get doesn't", k)
		}
		c[k] = string(v)
	}
	if len(l) != x.Len() || len(c) != x.Len() {
		t.Fatalf("%d keys, %d of them once, Len = %d", len(l), len(c), x.Len())
	}
	return c
}

// must reports it unless e is OK.
func must(t *testing.T, e api.Errno) {
	t.Helper()
	if e != api.OK {
		t.Fatalf("error %d", e)
	}
}

func newDisk(t *testing.T, room int) *disk.Disk {
	t.Helper()
	d, e := disk.New(room)
	must(t, e)
	return d
}

// stored is the making of a journal t with these records.
func stored(t *testing.T, d *disk.Disk, recs ...[]byte) {
	t.Helper()
	j, _, e := journal.Open(d, "t")
	must(t, e)
	for _, p := range recs {
		must(t, j.Append(p))
	}
	must(t, j.Sync())
}

// opened is the table in the journal t, which must have these contents.
func opened(t *testing.T, d *disk.Disk, want contents) *table.Table {
	t.Helper()
	x, e := table.Open(d, "t")
	if x == nil || e != api.OK {
		t.Fatalf("Open: %v, %d", x, e)
	}
	has(t, x, want)
	return x
}

// has reports it unless these are the contents of the table.
func has(t *testing.T, x *table.Table, want contents) {
	t.Helper()
	if got := shown(t, x); !maps.Equal(got, want) {
		t.Fatalf("%.300q, not %.300q", got, want)
	}
}

// held are the bytes of all files of a disk.
func held(t *testing.T, d *disk.Disk) map[string]string {
	t.Helper()
	names, e := d.Names("")
	must(t, e)
	m := map[string]string{}
	for _, s := range names {
		b, e := d.Read(s, 0, api.MaxRoom)
		must(t, e)
		m[s] = string(b)
	}
	return m
}

// records reports it unless these are the journal's records, which last.
func records(t *testing.T, x *table.Table, d *disk.Disk, want ...[]byte) {
	t.Helper()
	var b []byte
	for _, p := range want {
		b = append(b, journal.Frame(p)...)
	}
	if got := held(t, d)["t"]; got != string(b) || x.Size() != len(b) || d.Loose() != 0 {
		t.Fatalf("%d bytes, %.100x, not %d bytes, %.100x; Size = %d; %d loose", len(got), got, len(b), b, x.Size(), d.Loose())
	}
}

// deed is something that is done on a disk.
type deed func(d *disk.Disk) api.Errno

// alike reports it unless two deeds perform the same steps and answer the same, seen from wherever the power goes and whatever survives. The disk is made anew each time.
func alike(t *testing.T, begin func() *disk.Disk, got, want deed) {
	t.Helper()
	for n, down := 0, true; down; n++ {
		for keep := range n + 2 {
			for _, part := range []int{0, 1, 9, 1 << 20} {
				a, b := begin(), begin()
				must(t, a.Fuse(n))
				must(t, b.Fuse(n))
				e, f := got(a), want(b)
				down = b.Down()
				if e != f || a.Down() != b.Down() || a.Loose() != b.Loose() || a.Used() != b.Used() {
					t.Fatalf("%d steps: %d, not %d; Down: %v, not %v; %d loose, %d bytes, not %d, %d", n, e, f, a.Down(), b.Down(), a.Loose(), a.Used(), b.Loose(), b.Used())
				}
				must(t, a.Crash(keep, part))
				must(t, b.Crash(keep, part))
				if x, y := held(t, a), held(t, b); !maps.Equal(x, y) {
					t.Fatalf("%d steps, Crash(%d, %d): %.300q, not %.300q", n, keep, part, x, y)
				}
			}
		}
	}
}

func TestOracle(t *testing.T) { // the examples of the chapter hold for what the other tests hold the package against
	if b := record(set("a", "1")); !bytes.Equal(b, []byte{1, 1, 1, 97, 1, 49}) {
		t.Errorf("record: %v", b)
	}
	if l, ok := changes([]byte{1, 1, 1, 97, 1, 49}); !ok || !same(l, []table.Change{set("a", "1")}) {
		t.Errorf("changes: %s, %v", brief(l), ok)
	}
	if l, ok := changes([]byte{1, 2, 1, 97}); ok {
		t.Errorf("changes: %s, %v", brief(l), ok)
	}
	c := after(nil, set("a", "1"), set("b", "2"))
	if !slices.Equal(c.keys("", "", 9), []string{"a", "b"}) || !slices.Equal(c.keys("", "a", 9), []string{"b"}) {
		t.Errorf("contents: %v", c)
	}
	if _, ok := after(c, gone("a"))["a"]; ok || len(c) != 2 {
		t.Errorf("contents: %v", c)
	}
}
