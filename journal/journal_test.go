package journal_test

import (
	"bytes"
	"math/rand"
	"slices"
	"strings"
	"testing"
	"unsafe"

	"hallmark/api"
	"hallmark/disk"
	"hallmark/journal"
)

func TestOpenCreates(t *testing.T) { // P10.2
	d := newDisk(t, 100)
	opened(t, d)
	holds(t, d, map[string]string{"j": ""})
	if d.Loose() != 0 {
		t.Errorf("%d loose", d.Loose())
	}
	opened(t, d)
}

func TestOpenReads(t *testing.T) { // P10.2
	for _, l := range [][]string{nil, {""}, {"a"}, {"a", "", "bcd"}, {strings.Repeat("x", 500), "y"}} {
		d := newDisk(t, 1000)
		laid(t, d, "j", frames(l...))
		laid(t, d, "j+", []byte("other"))
		must(t, d.Fuse(0))
		opened(t, d, l...)
		must(t, d.Fuse(-1))
		holds(t, d, map[string]string{"j": string(frames(l...)), "j+": "other"})
	}
}

func TestOpenMends(t *testing.T) { // P10.2
	for _, l := range [][]string{nil, {"a"}, {"a", "", "bcd"}} {
		b := frames(l...)
		for _, tail := range []string{"\x00", "\x00\x00\x00\x01", "\x00\x00\x00\x00\x00\x00\x00\x00", string(frame([]byte("cut"))[:10]), "\xff\xff\xff\xff\xff\xff\xff\xff\xff", "garbage" + string(frame([]byte("a")))} {
			for _, spare := range []bool{false, true} {
				d := newDisk(t, 1000)
				laid(t, d, "j", append(slices.Clip(b), tail...))
				laid(t, d, "k", []byte("other"))
				if spare {
					laid(t, d, "j+", []byte("old"))
				}
				j := opened(t, d, l...)
				holds(t, d, map[string]string{"j": string(b), "k": "other"})
				if d.Loose() != 0 {
					t.Errorf("%d loose", d.Loose())
				}
				must(t, j.Append([]byte("new")))
				must(t, j.Sync())
				opened(t, d, append(slices.Clip(l), "new")...)
			}
		}
	}
}

func TestOpenSteps(t *testing.T) { // P10.2
	open := func(d *disk.Disk) api.Errno {
		_, _, e := journal.Open(d, "j")
		return e
	}
	begin := func(b, spare []byte) func() *disk.Disk {
		return func() *disk.Disk {
			d := newDisk(t, 1000)
			laid(t, d, "k", []byte("other"))
			if b != nil {
				laid(t, d, "j", b)
			}
			if spare != nil {
				laid(t, d, "j+", spare)
			}
			return d
		}
	}
	good := frames("a", "bc")
	performs(t, begin(nil, nil), open, api.OK, create("j"), sync)
	performs(t, begin(nil, good), open, api.OK, create("j"), sync)
	performs(t, begin(good, nil), open, api.OK)
	performs(t, begin(good, good), open, api.OK)
	performs(t, begin([]byte{}, nil), open, api.OK)
	torn := append(frames("a", "bc"), "torn"...)
	performs(t, begin(torn, nil), open, api.OK, create("j+"), add("j+", good), sync, rename("j+", "j"), sync)
	performs(t, begin(torn, good), open, api.OK, remove("j+"), create("j+"), add("j+", good), sync, rename("j+", "j"), sync)
	performs(t, begin([]byte("torn"), nil), open, api.OK, create("j+"), sync, rename("j+", "j"), sync)
}

func TestOpenErrors(t *testing.T) { // P10.2
	long := strings.Repeat("n", 160)
	down := newDisk(t, 100)
	down.Fuse(0)
	down.Sync()
	for _, s := range []string{"", long, long + "n", strings.Repeat("n", 1000)} {
		for _, d := range []*disk.Disk{newDisk(t, 100), down} {
			if j, recs, e := journal.Open(d, s); j != nil || len(recs) != 0 || e != api.ErrArg {
				t.Errorf("Open(%.200q): %v, %q, %d", s, j, recs, e)
			}
		}
		if j, recs, e := journal.Open(nil, s); j != nil || len(recs) != 0 || e != api.ErrNil {
			t.Errorf("Open of nil: %v, %q, %d", j, recs, e)
		}
	}
	if j, recs, e := journal.Open(down, "j"); j != nil || len(recs) != 0 || e != api.ErrDown {
		t.Errorf("Open: %v, %q, %d", j, recs, e)
	}
	for _, s := range []string{long[1:], "\x00", "+", "++", "\xff"} {
		d := newDisk(t, 100)
		if j, _, e := journal.Open(d, s); j == nil || e != api.OK {
			t.Errorf("Open(%.200q): %v, %d", s, j, e)
		}
		holds(t, d, map[string]string{s: ""})
	}
}

// filled is a disk with so many files beside those of a journal.
func filled(t *testing.T, n int) *disk.Disk {
	t.Helper()
	d := newDisk(t, 1000)
	for i := range n {
		must(t, d.Create(strings.Repeat("f", i%100)+"/"+string(rune('0'+i/100))))
	}
	must(t, d.Sync())
	return d
}

func TestOpenOfFullDisk(t *testing.T) { // P10.2: on an error there is no journal, and the file is as it was
	d := filled(t, 4096)
	if j, recs, e := journal.Open(d, "j"); j != nil || len(recs) != 0 || e != api.ErrFull || d.Loose() != 0 {
		t.Errorf("Open: %v, %q, %d, %d loose", j, recs, e, d.Loose())
	}
	// The file is there, but none can be made to mend it.
	d = filled(t, 4095)
	torn := append(frames("a"), "torn"...)
	laid(t, d, "j", torn)
	if j, recs, e := journal.Open(d, "j"); j != nil || len(recs) != 0 || e != api.ErrFull || d.Loose() != 0 {
		t.Errorf("Open: %v, %q, %d, %d loose", j, recs, e, d.Loose())
	}
	if b, e := d.Read("j", 0, 1000); !bytes.Equal(b, torn) || e != api.OK {
		t.Errorf("%q, %d", b, e)
	}
	// No room for what is to be mended.
	d = newDisk(t, len(torn)+8)
	laid(t, d, "j", torn)
	if j, recs, e := journal.Open(d, "j"); j != nil || len(recs) != 0 || e != api.ErrFull {
		t.Errorf("Open: %v, %q, %d", j, recs, e)
	}
	holds(t, d, map[string]string{"j": string(torn)})
	d = newDisk(t, len(torn)+9)
	laid(t, d, "j", torn)
	opened(t, d, "a")
}

func TestAppend(t *testing.T) { // P10.2
	d := newDisk(t, 1000)
	j := opened(t, d)
	var l []string
	for i, s := range []string{"a", "", "bcd", "\x00\x00\x00\x00", string(frames("a"))} {
		must(t, j.Append([]byte(s)))
		l = append(l, s)
		if d.Loose() != i+1 || j.Size() != len(frames(l...)) {
			t.Errorf("%d loose, Size = %d", d.Loose(), j.Size())
		}
		holds(t, d, map[string]string{"j": string(frames(l...))})
	}
	must(t, j.Sync())
	if d.Loose() != 0 {
		t.Errorf("%d loose", d.Loose())
	}
	j = opened(t, d, l...)
	must(t, j.Append([]byte("more")))
	opened(t, d, append(l, "more")...)
}

func TestAppendSteps(t *testing.T) { // P10.2
	begin := func() *disk.Disk {
		d := newDisk(t, 1000)
		laid(t, d, "j", frames("a"))
		return d
	}
	appends := func(d *disk.Disk) api.Errno {
		j, _, e := journal.Open(d, "j")
		must(t, e)
		return j.Append([]byte("bc"))
	}
	performs(t, begin, appends, api.OK, add("j", frame([]byte("bc"))))
	syncs := func(d *disk.Disk) api.Errno {
		if e := appends(d); e != api.OK {
			return e
		}
		j, _, e := journal.Open(d, "j")
		must(t, e)
		return j.Sync()
	}
	performs(t, begin, syncs, api.OK, add("j", frame([]byte("bc"))), sync)
}

func TestAppendLimit(t *testing.T) { // P10.2
	d := newDisk(t, 1<<22)
	j := opened(t, d)
	big := strings.Repeat("r", 1<<20)
	for _, n := range []int{1<<20 - 7, 1<<20 - 1, 1 << 20} {
		if e := j.Append([]byte(big[:n])); e != api.ErrLimit {
			t.Errorf("Append of %d bytes: %d", n, e)
		}
	}
	if e := j.Append(make([]byte, 1<<24)); e != api.ErrLimit {
		t.Errorf("Append: %d", e)
	}
	must(t, j.Append([]byte(big[8:])))
	must(t, j.Append([]byte(big[9:])))
	opened(t, d, big[8:], big[9:])
	d.Fuse(0)
	if e := j.Append([]byte(big[7:])); e != api.ErrLimit || d.Down() {
		t.Errorf("Append: %d", e)
	}
	d.Sync()
	if e := j.Append([]byte(big[7:])); e != api.ErrLimit {
		t.Errorf("Append: %d", e)
	}
	if e := j.Append(nil); e != api.ErrDown {
		t.Errorf("Append: %d", e)
	}
}

func TestAppendErrors(t *testing.T) { // P10.2: nothing is changed
	d := newDisk(t, 20)
	j := opened(t, d)
	must(t, j.Append([]byte("ab")))
	for _, s := range []string{"abc", "abcdefgh"} {
		if e := j.Append([]byte(s)); e != api.ErrFull || j.Size() != 10 || d.Loose() != 1 {
			t.Errorf("Append: %d, Size = %d", e, j.Size())
		}
	}
	must(t, j.Append([]byte("cd")))
	if e := j.Append(nil); e != api.ErrFull || j.Size() != 20 {
		t.Errorf("Append: %d, Size = %d", e, j.Size())
	}
	opened(t, d, "ab", "cd")
	d.Fuse(0)
	if e := j.Sync(); e != api.ErrDown || j.Size() != 20 {
		t.Errorf("Sync: %d, Size = %d", e, j.Size())
	}
	if e := j.Append(nil); e != api.ErrDown || j.Size() != 20 {
		t.Errorf("Append: %d, Size = %d", e, j.Size())
	}
	d = newDisk(t, 20)
	j = opened(t, d)
	must(t, d.Remove("j"))
	if e := j.Append(nil); e != api.ErrNone || j.Size() != 0 {
		t.Errorf("Append: %d, Size = %d", e, j.Size())
	}
}

func TestRewrite(t *testing.T) { // P10.2
	for _, old := range [][]string{nil, {"a"}, {"a", "", "bcd"}} {
		for _, l := range [][]string{nil, {""}, {"x"}, {"xyz", "", "a"}, {strings.Repeat("y", 300)}} {
			for _, spare := range []string{"", "old"} {
				d := newDisk(t, 1000)
				laid(t, d, "k", []byte("other"))
				j := opened(t, d)
				for _, s := range old {
					must(t, j.Append([]byte(s)))
				}
				if spare != "" {
					laid(t, d, "j+", []byte(spare))
				}
				must(t, j.Rewrite(records(l...)))
				holds(t, d, map[string]string{"j": string(frames(l...)), "k": "other"})
				if j.Size() != len(frames(l...)) || d.Loose() != 0 {
					t.Errorf("Size = %d, %d loose", j.Size(), d.Loose())
				}
				must(t, j.Append([]byte("more")))
				if j.Size() != len(frames(append(l, "more")...)) {
					t.Errorf("Size = %d", j.Size())
				}
				opened(t, d, append(slices.Clip(l), "more")...)
			}
		}
	}
}

// rewrites is a Rewrite of a new journal object.
func rewrites(t *testing.T, recs [][]byte) func(d *disk.Disk) api.Errno {
	return func(d *disk.Disk) api.Errno {
		j, _, e := journal.Open(d, "j")
		must(t, e)
		return j.Rewrite(recs)
	}
}

func TestRewriteSteps(t *testing.T) { // P10.2
	begin := func(spare string) func() *disk.Disk {
		return func() *disk.Disk {
			d := newDisk(t, 200)
			laid(t, d, "k", []byte("other"))
			laid(t, d, "j", frames("a", "bcd"))
			if spare != "" {
				laid(t, d, "j+", []byte(spare))
			}
			must(t, d.Append("j", frame([]byte("e"))))
			return d
		}
	}
	b := frames("x", "", "yz")
	done := rewrites(t, records("x", "", "yz"))
	performs(t, begin(""), done, api.OK, create("j+"), add("j+", b), sync, rename("j+", "j"), sync)
	performs(t, begin("old"), done, api.OK, remove("j+"), create("j+"), add("j+", b), sync, rename("j+", "j"), sync)
	performs(t, begin("old"), rewrites(t, nil), api.OK, remove("j+"), create("j+"), sync, rename("j+", "j"), sync)
	performs(t, begin(""), rewrites(t, nil), api.OK, create("j+"), sync, rename("j+", "j"), sync)
}

func TestRewriteOfFullDisk(t *testing.T) { // P10.2: the file that has been begun is removed again, and the records are the previous ones
	begin := func(spare string) func() *disk.Disk {
		return func() *disk.Disk {
			d := newDisk(t, 60)
			laid(t, d, "j", frames("a"))
			if spare != "" {
				laid(t, d, "j+", []byte(spare))
			}
			return d
		}
	}
	done := rewrites(t, records(strings.Repeat("x", 44)))
	performs(t, begin(""), done, api.ErrFull, create("j+"), remove("j+"))
	performs(t, begin("old"), done, api.ErrFull, remove("j+"), create("j+"), remove("j+"))
	d := begin("old")()
	j := opened(t, d, "a")
	if e := j.Rewrite(records(strings.Repeat("x", 44))); e != api.ErrFull || j.Size() != 9 {
		t.Errorf("Rewrite: %d, Size = %d", e, j.Size())
	}
	holds(t, d, map[string]string{"j": string(frames("a"))})
	must(t, j.Append([]byte("b")))
	must(t, j.Rewrite(records("c", "d")))
	opened(t, d, "c", "d")
	must(t, j.Rewrite(records("e", strings.Repeat("x", 60-18-9-8))))
	opened(t, d, "e", strings.Repeat("x", 25))
}

func TestRewriteOfFullDiskLate(t *testing.T) { // P10.2: behind some Appends
	begin := func() *disk.Disk {
		d := newDisk(t, 5<<19)
		laid(t, d, "j", frames("a"))
		return d
	}
	half := bytes.Repeat([]byte("h"), 1<<19)
	recs := [][]byte{half, half, half, half, half, half}
	var b []byte
	for range recs {
		b = append(b, frame(half)...)
	}
	counts(t, begin, rewrites(t, recs), api.ErrFull, create("j+"), add("j+", b[:1<<20]), add("j+", b[1<<20:2<<20]), remove("j+"))
}

func TestRewriteOfTooManyFiles(t *testing.T) { // P10.2: nothing was begun, so that nothing is removed
	begin := func(n int, spare bool) func() *disk.Disk {
		return func() *disk.Disk {
			d := filled(t, n)
			laid(t, d, "j", frames("a"))
			if spare {
				laid(t, d, "j+", frames("old"))
			}
			return d
		}
	}
	d := begin(4095, false)()
	j := opened(t, d, "a")
	if e := j.Rewrite(records("b")); e != api.ErrFull || j.Size() != 9 || d.Loose() != 0 {
		t.Errorf("Rewrite: %d, Size = %d, %d loose", e, j.Size(), d.Loose())
	}
	opened(t, d, "a")
	d = begin(4094, true)()
	j = opened(t, d, "a")
	must(t, j.Rewrite(records("b")))
	opened(t, d, "b")
}

func TestRewriteInPieces(t *testing.T) { // P10.2: MaxRecord bytes at a time, whatever records they belong to
	const most = 1 << 20
	rec := func(n int) []byte { return bytes.Repeat([]byte{byte(n)}, n-8) }
	begin := func() *disk.Disk {
		d := newDisk(t, 8<<20)
		laid(t, d, "j", frames("a"))
		return d
	}
	for _, sizes := range [][]int{
		{most - 1}, {most}, {most, 8}, {most - 8, 8}, {most - 1, 8}, {most, most}, {700000, 700000, 700000}, {most - 1, most - 1, most - 1}, {8, most, most},
	} {
		var recs [][]byte
		var b []byte
		for _, n := range sizes {
			recs = append(recs, rec(n))
			b = append(b, frame(rec(n))...)
		}
		steps := []step{create("j+")}
		for c := range slices.Chunk(b, most) {
			steps = append(steps, add("j+", c))
		}
		counts(t, begin, rewrites(t, recs), api.OK, append(steps, sync, rename("j+", "j"), sync)...)
		d := begin()
		must(t, rewrites(t, recs)(d))
		opened(t, d, texts(recs)...)
	}
}

func TestOpenMendsGreatRecords(t *testing.T) { // P10.2: records that Append doesn't take, too
	great := strings.Repeat("g", 1<<20)
	d := newDisk(t, 5<<20)
	laid(t, d, "j", append(frames("a", great, "b"), "torn"...))
	opened(t, d, "a", great, "b")
	holds(t, d, map[string]string{"j": string(frames("a", great, "b"))})
	d = newDisk(t, 5<<20)
	laid(t, d, "j", frames("a", great+"h", "b"))
	opened(t, d, "a")
	holds(t, d, map[string]string{"j": string(frames("a"))})
}

func TestRewriteLimit(t *testing.T) { // P10.2
	d := newDisk(t, 5<<20)
	j := opened(t, d)
	must(t, j.Append([]byte("a")))
	must(t, j.Sync())
	big := strings.Repeat("r", 1<<20)
	must(t, d.Fuse(0))
	for _, l := range [][]string{{big[7:]}, {"a", "b", big}, {big[7:], "a"}, {big[8:], big[7:], big[8:]}} {
		if e := j.Rewrite(records(l...)); e != api.ErrLimit || d.Down() || j.Size() != 9 {
			t.Errorf("Rewrite: %d, Down: %v, Size = %d", e, d.Down(), j.Size())
		}
	}
	must(t, d.Fuse(-1))
	must(t, j.Rewrite(records(big[8:], "a", big[8:])))
	j = opened(t, d, big[8:], "a", big[8:])
	d.Fuse(0)
	d.Sync()
	if e := j.Rewrite(records(big[7:])); e != api.ErrLimit {
		t.Errorf("Rewrite: %d", e)
	}
	if e := j.Rewrite(records(big[8:])); e != api.ErrDown {
		t.Errorf("Rewrite: %d", e)
	}
}

func TestRewriteOfVeryMuch(t *testing.T) { // R1, P10.2: far more than any disk has room for
	d := newDisk(t, 3<<20)
	j := opened(t, d)
	if e := j.Rewrite(slices.Repeat([][]byte{make([]byte, 1<<20-8)}, 1<<16)); e != api.ErrFull || d.Used() != 0 {
		t.Errorf("Rewrite: %d, %d bytes", e, d.Used())
	}
}

func TestRewriteDown(t *testing.T) { // P10.2: the size is the previous one
	for n := range 6 {
		d := newDisk(t, 100)
		j := opened(t, d)
		must(t, j.Append([]byte("a")))
		must(t, d.Fuse(n))
		e := j.Rewrite(records("bc", "d"))
		if want := map[bool]int{true: 9, false: 19}[n < 5]; j.Size() != want || (e == api.ErrDown) != (n < 5) {
			t.Errorf("%d steps: %d, Size = %d, not %d", n, e, j.Size(), want)
		}
	}
}

func TestNilJournal(t *testing.T) { // R1, P10.2
	var j *journal.Journal
	for _, n := range []int{0, 1, 1 << 21} {
		if e := j.Append(make([]byte, n)); e != api.ErrNil {
			t.Errorf("Append: %d", e)
		}
		if e := j.Rewrite([][]byte{make([]byte, n)}); e != api.ErrNil {
			t.Errorf("Rewrite: %d", e)
		}
	}
	if e := j.Sync(); e != api.ErrNil || j.Size() != 0 {
		t.Errorf("Sync: %d, Size = %d", e, j.Size())
	}
}

func TestZeroJournalPanicsNowhere(t *testing.T) { // R1
	j := new(journal.Journal)
	j.Append([]byte("a"))
	j.Sync()
	j.Rewrite(nil)
	j.Rewrite(records("a"))
	j.Size()
	journal.Open(new(disk.Disk), "j")
}

func TestJournalKeepsNothing(t *testing.T) { // R3
	d := newDisk(t, 1000)
	name := []byte("j")
	j, _, e := journal.Open(d, unsafe.String(&name[0], 1))
	must(t, e)
	name[0] = '?'
	p := []byte("abcdef")
	must(t, j.Append(p[:3]))
	if string(p) != "abcdef" {
		t.Error("the argument is changed")
	}
	p[0] = 'x'
	opened(t, d, "abc")
	recs := [][]byte{[]byte("0123")[:2], nil, []byte("45")}
	must(t, j.Rewrite(recs[:2]))
	if !slices.Equal(texts(recs), []string{"01", "", "45"}) || string(recs[0][:4]) != "0123" {
		t.Error("the argument is changed")
	}
	recs[0][0], recs[1] = 'x', []byte("y")
	_, got, _ := journal.Open(d, "j")
	_, again, _ := journal.Open(d, "j")
	for _, p := range got {
		p = p[:cap(p)]
		for i := range p {
			p[i] = 'x'
		}
	}
	if !slices.Equal(texts(again), []string{"01", ""}) {
		t.Errorf("%q", again)
	}
	opened(t, d, "01", "")
	holds(t, d, map[string]string{"j": string(frames("01", ""))})
}

func TestJournalsAreApart(t *testing.T) { // R5: several on one disk
	r := rand.New(rand.NewSource(103))
	d := newDisk(t, 1<<20)
	names := []string{"j", "k", "j2", "+"}
	want := map[string][]string{}
	js := map[string]*journal.Journal{}
	for range 600 {
		s := names[r.Intn(len(names))]
		switch {
		case js[s] == nil || r.Intn(6) == 0:
			j, recs, e := journal.Open(d, s)
			must(t, e)
			if !slices.Equal(texts(recs), want[s]) {
				t.Fatalf("%s: %s, not %s", s, brief(texts(recs)), brief(want[s]))
			}
			js[s] = j
		case r.Intn(8) == 0:
			want[s] = want[s][len(want[s])/2:]
			must(t, js[s].Rewrite(records(want[s]...)))
		default:
			p := make([]byte, r.Intn(9))
			r.Read(p)
			must(t, js[s].Append(p))
			want[s] = append(slices.Clip(want[s]), string(p))
		}
		if js[s].Size() != len(frames(want[s]...)) {
			t.Fatalf("%s: Size = %d, not %d", s, js[s].Size(), len(frames(want[s]...)))
		}
	}
}

func TestOpenReadsAllThatADiskHolds(t *testing.T) { // P10.2
	great := strings.Repeat("g", 1<<20-8)
	l := slices.Repeat([]string{great}, 64)
	l[63] = great[1:]
	d := newDisk(t, 1<<26)
	laid(t, d, "j", append(frames(l...), 0))
	// There is no room to mend it in, so that it has to be as it should be.
	if j, recs, e := journal.Open(d, "j"); j != nil || len(recs) != 0 || e != api.ErrFull {
		t.Errorf("Open: %v, %s, %d", j, brief(texts(recs)), e)
	}
	l[63] = great
	d = newDisk(t, 1<<26)
	laid(t, d, "j", frames(l...))
	opened(t, d, l...)
}
