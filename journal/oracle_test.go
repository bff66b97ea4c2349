package journal_test

import (
	"bytes"
	"encoding/binary"
	"fmt"
	"hash/crc32"
	"maps"
	"slices"
	"strings"
	"testing"

	"hallmark/api"
	"hallmark/disk"
	"hallmark/journal"
)

// frame is the oracle of Frame, with the library's encoding and checksum.
func frame(p []byte) []byte {
	var n [4]byte
	binary.BigEndian.PutUint32(n[:], uint32(len(p)))
	sum := crc32.Update(crc32.ChecksumIEEE(n[:]), crc32.IEEETable, p)
	return append(binary.BigEndian.AppendUint32(n[:], sum), p...)
}

// frames are the frames of records one after another.
func frames(recs ...string) []byte {
	var b []byte
	for _, p := range recs {
		b = append(b, frame([]byte(p))...)
	}
	return b
}

// scan is the oracle of Scan.
func scan(b []byte) ([]string, int) {
	var recs []string
	at := 0
	for len(b)-at >= 8 {
		n := binary.BigEndian.Uint32(b[at:])
		if n > 1048576 || uint64(n) > uint64(len(b)-at-8) {
			break
		}
		p := b[at+8 : at+8+int(n)]
		if !bytes.Equal(frame(p), b[at:at+8+int(n)]) {
			break
		}
		recs = append(recs, string(p))
		at += 8 + int(n)
	}
	return recs, at
}

// texts are records as texts.
func texts(recs [][]byte) []string {
	var l []string
	for _, p := range recs {
		l = append(l, string(p))
	}
	return l
}

// records are texts as records.
func records(l ...string) [][]byte {
	var recs [][]byte
	for _, s := range l {
		recs = append(recs, []byte(s))
	}
	return recs
}

// brief is a list of records for a report.
func brief(l []string) string {
	var b strings.Builder
	for _, s := range l {
		fmt.Fprintf(&b, "[%.20q %d]", s, len(s))
	}
	return fmt.Sprintf("%d: %.600s", len(l), b.String())
}

// must reports it unless e is OK.
func must(t *testing.T, e api.Errno) {
	t.Helper()
	if e != api.OK {
		t.Fatalf("error %d", e)
	}
}

func newDisk(t *testing.T, room int) *disk.Disk {
	t.Helper()
	d, e := disk.New(room)
	must(t, e)
	return d
}

// opened is the journal in the file j, which must have these records.
func opened(t *testing.T, d *disk.Disk, want ...string) *journal.Journal {
	t.Helper()
	j, recs, e := journal.Open(d, "j")
	if j == nil || e != api.OK || !slices.Equal(texts(recs), want) {
		t.Fatalf("Open: %v, %s, %d, not %s", j, brief(texts(recs)), e, brief(want))
	}
	if j.Size() != len(frames(want...)) {
		t.Fatalf("Size = %d, not %d", j.Size(), len(frames(want...)))
	}
	return j
}

// held are the bytes of all files of a disk.
func held(t *testing.T, d *disk.Disk) map[string]string {
	t.Helper()
	names, e := d.Names("")
	must(t, e)
	m := map[string]string{}
	for _, s := range names {
		b, e := d.Read(s, 0, api.MaxRoom)
		must(t, e)
		m[s] = string(b)
	}
	return m
}

// holds reports it unless these are the files of the disk.
func holds(t *testing.T, d *disk.Disk, want map[string]string) {
	t.Helper()
	if got := held(t, d); !maps.Equal(got, want) {
		t.Errorf("the disk has %.300q, not %.300q", got, want)
	}
}

// laid is a file's making, with these bytes durable in it.
func laid(t *testing.T, d *disk.Disk, name string, b []byte) {
	t.Helper()
	must(t, d.Create(name))
	for c := range slices.Chunk(b, api.MaxRecord) {
		must(t, d.Append(name, c))
	}
	must(t, d.Sync())
}

// step is something that is done on a disk.
type step func(d *disk.Disk) api.Errno

func create(name string) step { return func(d *disk.Disk) api.Errno { return d.Create(name) } }
func remove(name string) step { return func(d *disk.Disk) api.Errno { return d.Remove(name) } }
func add(name string, b []byte) step {
	return func(d *disk.Disk) api.Errno { return d.Append(name, b) }
}
func rename(from, to string) step {
	return func(d *disk.Disk) api.Errno { return d.Rename(from, to) }
}
func sync(d *disk.Disk) api.Errno { return d.Sync() }

// pair are two disks: on one it is done, with power for n steps; on the other one so many of these steps. It is reported unless these are as many as what is done performs.
func pair(t *testing.T, begin func() *disk.Disk, done func(d *disk.Disk) api.Errno, want api.Errno, n int, steps []step) (a, b *disk.Disk) {
	t.Helper()
	a, b = begin(), begin()
	must(t, a.Fuse(n))
	e := done(a)
	for _, s := range steps[:min(n, len(steps))] {
		must(t, s(b))
	}
	if n < len(steps) {
		want = api.ErrDown
	}
	if e != want || a.Down() != (n < len(steps)) || a.Loose() != b.Loose() || a.Used() != b.Used() {
		t.Fatalf("%d of %d steps: %d, not %d; Down: %v; %d loose, %d bytes, not %d, %d", n, len(steps), e, want, a.Down(), a.Loose(), a.Used(), b.Loose(), b.Used())
	}
	return a, b
}

// performs reports it unless what is done performs just these steps, seen from wherever the power goes and whatever survives. The disk is made anew each time.
func performs(t *testing.T, begin func() *disk.Disk, done func(d *disk.Disk) api.Errno, want api.Errno, steps ...step) {
	t.Helper()
	old := begin().Loose()
	for n := range len(steps) + 2 {
		for keep := range len(steps) + 2 {
			for _, part := range []int{0, 1, 9, 1 << 20} {
				a, b := pair(t, begin, done, want, n, steps)
				must(t, a.Crash(old+keep, part))
				must(t, b.Crash(old+keep, part))
				if x, y := held(t, a), held(t, b); !maps.Equal(x, y) {
					t.Fatalf("%d of %d steps, Crash(%d, %d): %.300q, not %.300q", n, len(steps), old+keep, part, x, y)
				}
			}
		}
	}
}

// counts is performs for what is too much to be looked at each time.
func counts(t *testing.T, begin func() *disk.Disk, done func(d *disk.Disk) api.Errno, want api.Errno, steps ...step) {
	t.Helper()
	for n := range len(steps) + 2 {
		pair(t, begin, done, want, n, steps)
	}
}

func TestOracle(t *testing.T) { // the examples of the chapter hold for what the other tests hold the package against
	f := frame([]byte("a"))
	if len(f) != 9 || !bytes.Equal(f[:4], []byte{0, 0, 0, 1}) || f[8] != 97 {
		t.Errorf("frame: %v", f)
	}
	if recs, n := scan(append(f, 0)); !slices.Equal(recs, []string{"a"}) || n != 9 {
		t.Errorf("scan: %q, %d", recs, n)
	}
}
