package blob_test

import (
	"encoding/hex"
	"maps"
	"math"
	"math/rand"
	"slices"
	"strconv"
	"strings"
	"testing"
	"unsafe"

	"hallmark/api"
	"hallmark/blob"
	"hallmark/disk"
)

func TestExample(t *testing.T) { // P12.1, P12.2
	x := empty(t, 1000)
	d, e := x.s.Put([]byte("abc"))
	if d != sum("abc") || e != api.OK {
		t.Fatalf("Put: %x, %d", d, e)
	}
	if n, e := x.s.Size(d); n != 3 || e != api.OK {
		t.Errorf("Size: %d, %d", n, e)
	}
	has(t, x.s, "abc")
	must(t, x.d.Fuse(0))
	must(t, puts(t, "abc")(x))
	must(t, x.d.Fuse(-1))
	must(t, x.s.Delete(d))
	if e := x.s.Delete(d); e != api.ErrNone {
		t.Errorf("Delete: %d", e)
	}
	has(t, x.s)
}

func TestFile(t *testing.T) { // P12.1
	r := rand.New(rand.NewSource(121))
	l := []api.Digest{{}, sum(""), sum("abc"), api.Digest([]byte(strings.Repeat("\xff", 32)))}
	for range 300 {
		var d api.Digest
		r.Read(d[:])
		l = append(l, d)
	}
	for _, d := range l {
		if got := blob.File(d); got != named(d) || !disk.IsName(got) {
			t.Errorf("File(%x): %q", d, got)
		}
	}
}

// others are files that are none of a store's, or that somebody else laid among them.
func others() contents {
	return contents{"t": "table", "u/00000001": "abc", "b": "b", "b++": "b++", "b-": "", "B+": "x", "a/b+": "y", "b/": "z", "b/+": "w", file("abc") + "+": "abc", "+": ""}
}

func TestNew(t *testing.T) { // P12.1: what a write left behind is removed, and nothing else
	for _, files := range []contents{{}, stored("", "abc"), others(), others().and(file("abc"), "abc")} {
		for _, p := range []string{"", "a", "abc", strings.Repeat("x", 300)} {
			x := laid(t, 1000, files.and("b+", p))
			opened(t, x.d)
			x.holds(t, files)
		}
		x := laid(t, 1000, files)
		opened(t, x.d)
		x.holds(t, files)
	}
	has(t, opened(t, laid(t, 1000, stored("", "abc").and("b+", "abc")).d), "", "abc")
}

func TestNewSteps(t *testing.T) { // P12.1
	call := func(x place) api.Errno {
		s, e := blob.New(x.d)
		if (s == nil) != (e != api.OK) {
			t.Errorf("New: %v, %d", s, e)
		}
		return e
	}
	for _, files := range []contents{{}, stored("abc"), others()} {
		performs(t, 1000, files, call, api.OK)
		performs(t, 1000, files.and("b+", ""), call, api.OK, remove("b+"), sync)
		performs(t, 1000, files.and("b+", "abc"), call, api.OK, remove("b+"), sync)
	}
}

func TestNewErrors(t *testing.T) { // P12.1
	for _, y := range []struct {
		d    *disk.Disk
		want api.Errno
	}{{nil, api.ErrNil}, {off(t, nil).d, api.ErrDown}, {off(t, stored("a").and("b+", "b")).d, api.ErrDown}} {
		if s, e := blob.New(y.d); s != nil || e != y.want {
			t.Errorf("New: %v, %d, not %d", s, e, y.want)
		}
	}
}

func TestPut(t *testing.T) { // P12.1
	x := laid(t, 1<<22, others())
	want := others()
	var texts []string
	for _, p := range []string{"abc", "", "\x00", "abcd", file("abc"), strings.Repeat("x", 63), strings.Repeat("x", 64), strings.Repeat("y", 1<<20), strings.Repeat("y", 1<<20-1)} {
		must(t, puts(t, p)(x))
		want, texts = want.and(file(p), p), append(texts, p)
		x.holds(t, want)
		has(t, x.s, texts...)
	}
	for _, p := range texts {
		must(t, puts(t, p)(x))
	}
	x.holds(t, want)
	has(t, opened(t, x.d), texts...)
}

func TestPutSteps(t *testing.T) { // P12.1
	for _, files := range []contents{{}, stored("other"), others()} {
		for _, p := range []string{"", "a", "abc"} {
			write := []step{create("b+"), add("b+", p), sync, rename("b+", file(p)), sync}
			performs(t, 1000, files, puts(t, p), api.OK, write...)
			for _, left := range []string{"", "a", "abc", "and more"} {
				performs(t, 1000, files.and("b+", left), puts(t, p), api.OK, append([]step{remove("b+")}, write...)...)
			}
		}
	}
}

func TestPutOfWhatIsThere(t *testing.T) { // P12.1: no step, whatever else the disk has
	for _, p := range []string{"", "abc"} {
		for _, files := range []contents{stored(p), stored(p, "other"), stored(p).and("b+", "left"), others().and(file(p), p), contents{file(p): "something else"}} {
			used := 0
			for _, q := range files {
				used += len(q)
			}
			performs(t, 1000, files, puts(t, p), api.OK)
			performs(t, used, files, puts(t, p), api.OK)
		}
	}
}

func TestPutTooMuch(t *testing.T) { // P12.1: ErrLimit comes ahead of the errors of the disk
	big := strings.Repeat("b", 1<<20+1)
	for _, x := range []place{empty(t, 1<<22), empty(t, 0), off(t, nil), laid(t, 1<<22, contents{file(big): big})} {
		for _, p := range []string{big, big + big} {
			if d, e := x.s.Put([]byte(p)); d != (api.Digest{}) || e != api.ErrLimit {
				t.Errorf("Put: %x, %d", d, e)
			}
		}
	}
	performs(t, 1<<22, contents{}, puts(t, big), api.ErrLimit)
	performs(t, 1<<22, contents{"b+": "left"}, puts(t, big), api.ErrLimit)
	if d, e := (*blob.Store)(nil).Put([]byte(big)); d != (api.Digest{}) || e != api.ErrNil {
		t.Errorf("Put: %x, %d", d, e)
	}
}

func TestPutOnFullDisk(t *testing.T) { // P12.1: to the last byte; what was begun is removed
	for _, files := range []contents{{}, stored("other"), stored("other").and("u/00000001", "abc")} {
		used := 0
		for _, q := range files {
			used += len(q)
		}
		for _, p := range []string{"a", "abc", "abcdefgh"} {
			for room := used; room < used+len(p); room++ {
				performs(t, room, files, puts(t, p), api.ErrFull, create("b+"), remove("b+"))
			}
			performs(t, used+len(p), files, puts(t, p), api.OK, create("b+"), add("b+", p), sync, rename("b+", file(p)), sync)
		}
		performs(t, used, files, puts(t, ""), api.OK, create("b+"), add("b+", ""), sync, rename("b+", file("")), sync)
	}
}

func TestPutOnFullDiskWithLeftBytes(t *testing.T) { // P12.1: they are removed first, and make room
	files := stored("other").and("b+", "left")
	for room := 9; room < 20; room++ {
		if room-5 < 8 {
			performs(t, room, files, puts(t, "abcdefgh"), api.ErrFull, remove("b+"), create("b+"), remove("b+"))
		} else {
			performs(t, room, files, puts(t, "abcdefgh"), api.OK, remove("b+"), create("b+"), add("b+", "abcdefgh"), sync, rename("b+", file("abcdefgh")), sync)
		}
	}
}

// crowded is a place with so many files more than these.
func crowded(t *testing.T, n int, files contents) place {
	t.Helper()
	files = maps.Clone(files)
	for i := range n {
		files["f"+strconv.Itoa(i)] = ""
	}
	return laid(t, 1000, files)
}

func TestPutAmongManyFiles(t *testing.T) { // P12.1: where no file can be made, there is none to remove
	for _, loose := range []bool{false, true} {
		x := crowded(t, 4095, stored("other"))
		if loose {
			must(t, x.d.Rename("f0", "f"))
		}
		before, n := held(t, x.d), x.d.Loose()
		for _, fuse := range []int{-1, 0, 9} {
			must(t, x.d.Fuse(fuse))
			if e := puts(t, "abc")(x); e != api.ErrFull || x.d.Loose() != n || x.d.Down() {
				t.Errorf("Put: %d, %d loose", e, x.d.Loose())
			}
			must(t, puts(t, "other")(x))
		}
		if got := held(t, x.d); !maps.Equal(got, before) {
			t.Errorf("%d files, not %d", len(got), len(before))
		}
	}
	// The last file that there may be is the one that was left behind.
	x := crowded(t, 4094, stored("other").and("b+", "left"))
	must(t, puts(t, "abc")(x))
	has(t, x.s, "other", "abc")
	if e := puts(t, "abcd")(x); e != api.ErrFull || x.d.Loose() != 0 {
		t.Errorf("Put: %d, %d loose", e, x.d.Loose())
	}
	has(t, opened(t, x.d), "other", "abc")
}

func TestPutAfterFullDisk(t *testing.T) { // P12.1: what could not be written can be when there is room
	x := laid(t, 10, stored("other"))
	for range 3 {
		if e := puts(t, "abcdef")(x); e != api.ErrFull {
			t.Errorf("Put: %d", e)
		}
		has(t, x.s, "other")
	}
	must(t, puts(t, "abcde")(x))
	has(t, x.s, "other", "abcde")
	must(t, x.s.Delete(sum("other")))
	must(t, x.s.Delete(sum("abcde")))
	must(t, puts(t, "abcdefghij")(x))
	x.holds(t, stored("abcdefghij"))
}

func TestDelete(t *testing.T) { // P12.1
	texts := []string{"", "a", "abc", "abcd"}
	for i, p := range texts {
		x := laid(t, 1000, others())
		for _, q := range texts {
			must(t, puts(t, q)(x))
		}
		must(t, x.s.Delete(sum(p)))
		rest := slices.Delete(slices.Clone(texts), i, i+1)
		has(t, x.s, rest...)
		want := others()
		maps.Copy(want, stored(rest...))
		x.holds(t, want)
		if e := x.s.Delete(sum(p)); e != api.ErrNone {
			t.Errorf("Delete: %d", e)
		}
		if n, e := x.s.Size(sum(p)); n != 0 || e != api.ErrNone {
			t.Errorf("Size: %d, %d", n, e)
		}
		must(t, puts(t, p)(x))
		has(t, x.s, texts...)
	}
}

func TestDeleteSteps(t *testing.T) { // P12.1
	for _, files := range []contents{{}, stored("other"), others(), contents{"b+": "abc"}} {
		for _, p := range []string{"", "abc"} {
			performs(t, 1000, files, deletes(sum(p)), api.ErrNone)
			performs(t, 1000, files.and(file(p), p), deletes(sum(p)), api.OK, remove(file(p)), sync)
			performs(t, 1000, files.and(file(p), "something else"), deletes(sum(p)), api.OK, remove(file(p)), sync)
		}
	}
}

func TestAdopt(t *testing.T) { // P12.1: files of any name, also of more bytes than Put accepts
	for _, p := range []string{"", "abc", strings.Repeat("p", 1<<20), strings.Repeat("q", 5<<20)} {
		names := []string{"u/00000001", "x", "\x00", "b", "b/", "b+", "b/x", named(sum("y")), "b/" + strings.ToUpper(file(p)[2:]), strings.Repeat("n", api.MaxName)}
		if len(p) > 9 {
			names = names[:1]
		}
		for _, name := range names {
			for _, there := range []bool{false, true} {
				x := empty(t, 1<<24)
				must(t, puts(t, "other")(x))
				files := stored("other", p)
				if there {
					laidBeside(t, x, file(p), p)
				}
				laidBeside(t, x, name, p)
				must(t, x.s.Adopt(name, sum(p)))
				x.holds(t, files)
				has(t, x.s, "other", p)
			}
		}
	}
}

// laidBeside is the making of another file in a place.
func laidBeside(t *testing.T, x place, name, p string) {
	t.Helper()
	must(t, x.d.Create(name))
	for b := range slices.Chunk([]byte(p), api.MaxRecord) {
		must(t, x.d.Append(name, b))
	}
	must(t, x.d.Sync())
}

func TestAdoptSteps(t *testing.T) { // P12.1
	for _, p := range []string{"", "abc"} {
		for _, name := range []string{"x", "b+", "b/x", file(p) + "+"} {
			for _, files := range []contents{{}, stored("other"), contents{"y": "y"}} {
				moves := files.and(name, p)
				performs(t, 1000, moves, adopts(name, sum(p)), api.OK, rename(name, file(p)), sync)
				performs(t, len(p)+5, contents{name: p}, adopts(name, sum(p)), api.OK, rename(name, file(p)), sync)
				for _, there := range []string{p, "something else"} {
					performs(t, 1000, moves.and(file(p), there), adopts(name, sum(p)), api.OK, remove(name), sync)
				}
			}
		}
	}
}

func TestAdoptOfItsOwnFile(t *testing.T) { // P12.1, P12.3: the bytes stay where they are
	for _, p := range []string{"", "abc"} {
		files := stored(p, "other")
		performs(t, 1000, files, adopts(file(p), sum(p)), api.OK, rename(file(p), file(p)), sync)
		x := empty(t, 1000)
		must(t, puts(t, p)(x))
		must(t, x.s.Adopt(file(p), sum(p)))
		has(t, x.s, p)
		x.holds(t, stored(p))
	}
}

func TestAdoptErrors(t *testing.T) { // P12.1: nothing is changed
	files := stored("abc").and("x", "abc").and("y", "other").and("e", "").and("b+", "left")
	long := strings.Repeat("n", api.MaxName+1)
	flipped := sum("abc")
	flipped[31] ^= 1
	for _, y := range []struct {
		name string
		d    api.Digest
		want api.Errno
	}{
		{"z", sum("abc"), api.ErrNone}, {"", sum(""), api.ErrNone}, {long, sum("abc"), api.ErrNone}, {file("other"), sum("other"), api.ErrNone}, {"z", api.Digest{}, api.ErrNone},
		{"x", sum("other"), api.ErrDigest}, {"y", sum("abc"), api.ErrDigest}, {"x", flipped, api.ErrDigest}, {"x", api.Digest{}, api.ErrDigest}, {"e", sum("abc"), api.ErrDigest},
		{"x", sum(""), api.ErrDigest}, {file("abc"), sum("other"), api.ErrDigest}, {"b+", sum("abc"), api.ErrDigest},
	} {
		performs(t, 1000, files, adopts(y.name, y.d), y.want)
		if e := off(t, files).s.Adopt(y.name, y.d); e != api.ErrDown {
			t.Errorf("Adopt(%.200q): %d", y.name, e)
		}
	}
}

func TestSizeAndRead(t *testing.T) { // P12.2: what the disk answers for the file, whoever wrote it
	far := strings.Repeat("f", 70000)
	x := laid(t, 1<<20, others().and(file("abc"), "abc").and(file(""), "").and(file("wrong"), "not that").and(file(far), far).and("b+", "xyz"))
	numbers := []int{math.MinInt, -1, 0, 1, 2, 3, 4, 69999, 70000, 70001, 1 << 40, math.MaxInt}
	for _, p := range []string{"abc", "", "wrong", far, "missing", "xyz"} {
		n, e := x.s.Size(sum(p))
		if m, f := x.d.Size(file(p)); n != m || e != f {
			t.Errorf("Size of %.20q: %d, %d, not %d, %d", p, n, e, m, f)
		}
		for _, at := range numbers {
			for _, n := range numbers {
				b, e := x.s.Read(sum(p), at, n)
				if c, f := x.d.Read(file(p), at, n); string(b) != string(c) || e != f {
					t.Errorf("Read of %.20q, %d, %d: %.20q, %d, not %.20q, %d", p, at, n, b, e, c, f)
				}
			}
		}
	}
	if b, e := x.s.Read(sum("abc"), 1, 9); string(b) != "bc" || e != api.OK {
		t.Errorf("Read: %q, %d", b, e)
	}
	if b, e := x.s.Read(sum("abc"), 0, 2); string(b) != "ab" || e != api.OK {
		t.Errorf("Read: %q, %d", b, e)
	}
	if b, e := x.s.Read(sum("abc"), -1, 2); len(b) != 0 || e != api.ErrArg {
		t.Errorf("Read: %q, %d", b, e)
	}
	if b, e := x.s.Read(sum("missing"), -1, 2); len(b) != 0 || e != api.ErrNone {
		t.Errorf("Read: %q, %d", b, e)
	}
	if n, e := x.s.Size(sum("missing")); n != 0 || e != api.ErrNone {
		t.Errorf("Size: %d, %d", n, e)
	}
}

func TestList(t *testing.T) { // P12.2: only what is the file of a digest
	digits := file("abc")[2:]
	files := contents{}
	for _, name := range []string{
		"b/", "b", "b+", "b/+", "b/00", "b/" + digits[:62], "b/" + digits[:63], "b/" + digits + "0", "b/" + digits + "00", "b/" + digits + digits, "b/" + strings.ToUpper(digits),
		"b/" + digits[:63] + "g", "b/" + digits[:63] + " ", "b/" + digits[:62] + "\xc3\xa9", "b/ " + digits[1:], "b/0x" + digits[2:], "b/" + digits + "+", "b//" + digits, "b//" + digits[1:], "b/b/" + digits,
		"B/" + digits, "a/" + digits, "c/" + digits, "b-" + digits, "b+" + digits, digits, "/b/" + digits, "u/00000001",
	} {
		files[name] = "abc"
	}
	x := laid(t, 1<<20, files)
	if l, e := x.s.List(); len(l) != 0 || e != api.OK {
		t.Errorf("List: %x, %d", l, e)
	}
	r := rand.New(rand.NewSource(122))
	want := []api.Digest{{}, api.Digest([]byte(strings.Repeat("\xff", 32))), sum("abc"), {1}, {31: 1}, {0x0a}, {0xa0}, {0x9f}}
	for range 200 {
		var d api.Digest
		r.Read(d[:])
		want = append(want, d)
	}
	for i, d := range want {
		// Whatever the bytes are: a file's name is what counts.
		laidBeside(t, x, named(d), strconv.Itoa(i))
		if l, e := x.s.List(); e != api.OK || !slices.Equal(l, ordered(want[:i+1])) {
			t.Fatalf("List: %x, %d", l, e)
		}
	}
}

func TestListAfterChanges(t *testing.T) { // P12.2
	x := empty(t, 1000)
	has(t, x.s)
	must(t, puts(t, "a")(x))
	must(t, puts(t, "b")(x))
	has(t, x.s, "a", "b")
	must(t, x.s.Delete(sum("a")))
	has(t, x.s, "b")
	laidBeside(t, x, "u/1", "c")
	has(t, x.s, "b")
	must(t, x.s.Adopt("u/1", sum("c")))
	has(t, x.s, "b", "c")
	has(t, opened(t, x.d), "b", "c")
}

func TestWhole(t *testing.T) { // P12.2
	for _, p := range []string{"", "a", "abc", strings.Repeat("w", 3<<20)} {
		if empty(t, 100).s.Whole(sum(p)) {
			t.Errorf("%.9q is whole on an empty disk", p)
		}
		x := laid(t, 1<<24, stored(p))
		if !x.s.Whole(sum(p)) {
			t.Errorf("%.9q is not whole", p)
		}
		wrong := []string{p + "\x00", p + p + "x"}
		for i := range min(len(p), 9) {
			b := []byte(p)
			b[len(b)-1-i] ^= 1 << (i % 8)
			wrong = append(wrong, p[:i], p[i+1:], string(b))
		}
		for _, q := range wrong {
			if laid(t, 1<<24, contents{file(p): q, "b+": p, "x": p}).s.Whole(sum(p)) {
				t.Errorf("%.9q is whole for %.9q", q, p)
			}
		}
		y := laid(t, 1<<24, contents{"b+": p, "u/1": p, "b/" + strings.ToUpper(file(p)[2:]): p, file(p) + "0": p})
		if y.s.Whole(sum(p)) {
			t.Errorf("%.9q is whole without its file", p)
		}
		must(t, x.d.Fuse(0))
		x.d.Sync()
		if x.s.Whole(sum(p)) {
			t.Errorf("%.9q is whole without power", p)
		}
	}
}

func TestWithoutPower(t *testing.T) { // P12.1, P12.2: ahead of what else is wrong
	x := off(t, stored("abc").and("x", "abc"))
	for _, p := range []string{"abc", "other"} {
		if d, e := x.s.Put([]byte(p)); d != (api.Digest{}) || e != api.ErrDown {
			t.Errorf("Put: %x, %d", d, e)
		}
		if n, e := x.s.Size(sum(p)); n != 0 || e != api.ErrDown {
			t.Errorf("Size: %d, %d", n, e)
		}
		if b, e := x.s.Read(sum(p), -1, 1); len(b) != 0 || e != api.ErrDown {
			t.Errorf("Read: %q, %d", b, e)
		}
		if e := x.s.Delete(sum(p)); e != api.ErrDown {
			t.Errorf("Delete: %d", e)
		}
		if e := x.s.Adopt("x", sum(p)); e != api.ErrDown {
			t.Errorf("Adopt: %d", e)
		}
	}
	if l, e := x.s.List(); len(l) != 0 || e != api.ErrDown {
		t.Errorf("List: %x, %d", l, e)
	}
	must(t, x.d.Crash(0, 0))
	has(t, x.s, "abc")
}

func TestNilStore(t *testing.T) { // R1, R2
	var s *blob.Store
	if d, e := s.Put(nil); d != (api.Digest{}) || e != api.ErrNil {
		t.Errorf("Put: %x, %d", d, e)
	}
	if n, e := s.Size(sum("")); n != 0 || e != api.ErrNil {
		t.Errorf("Size: %d, %d", n, e)
	}
	if b, e := s.Read(sum(""), -1, -1); len(b) != 0 || e != api.ErrNil {
		t.Errorf("Read: %q, %d", b, e)
	}
	if e := s.Delete(sum("")); e != api.ErrNil {
		t.Errorf("Delete: %d", e)
	}
	if l, e := s.List(); len(l) != 0 || e != api.ErrNil {
		t.Errorf("List: %x, %d", l, e)
	}
	if e := s.Adopt("", sum("")); e != api.ErrNil {
		t.Errorf("Adopt: %d", e)
	}
	if s.Whole(sum("")) {
		t.Error("Whole")
	}
}

func TestZeroStorePanicsNowhere(t *testing.T) { // R1
	s := new(blob.Store)
	s.Put([]byte("abc"))
	s.Size(sum("abc"))
	s.Read(sum("abc"), 0, 1)
	s.Delete(sum("abc"))
	s.List()
	s.Adopt("x", sum("abc"))
	s.Whole(sum("abc"))
	if z, e := blob.New(new(disk.Disk)); e == api.OK {
		z.Put(nil)
		z.List()
	}
}

func TestStoreKeepsNothing(t *testing.T) { // R3
	x := empty(t, 1000)
	p := []byte("value and more")
	must(t, puts(t, "other")(x))
	if _, e := x.s.Put(p[:5]); e != api.OK || string(p) != "value and more" {
		t.Errorf("Put: %d, the argument is %q", e, p)
	}
	copy(p, "?????????")
	name := []byte("u/1")
	laidBeside(t, x, "u/1", "adopted")
	must(t, x.s.Adopt(unsafe.String(&name[0], len(name)), sum("adopted")))
	copy(name, "???")
	has(t, x.s, "value", "other", "adopted")
	b, e := x.s.Read(sum("value"), 1, 2)
	must(t, e)
	b = b[:cap(b)]
	for i := range b {
		b[i] = '?'
	}
	l, e := x.s.List()
	must(t, e)
	l = l[:cap(l)]
	clear(l)
	has(t, x.s, "value", "other", "adopted")
	x.holds(t, stored("value", "other", "adopted"))
}

func TestStoresAreOneDisk(t *testing.T) { // a store keeps no state besides what is on its disk
	x := empty(t, 1000)
	other := opened(t, x.d)
	must(t, puts(t, "abc")(x))
	has(t, other, "abc")
	must(t, x.d.Fuse(0))
	must(t, puts(t, "abc")(place{x.d, other}))
	must(t, x.d.Fuse(-1))
	must(t, other.Delete(sum("abc")))
	has(t, x.s)
	must(t, puts(t, "abc")(x))
	must(t, x.d.Rename(file("abc"), "away"))
	has(t, x.s)
	must(t, puts(t, "abc")(x))
	has(t, x.s, "abc")
	if e := x.s.Delete(sum("away")); e != api.ErrNone {
		t.Errorf("Delete: %d", e)
	}
}

func TestHexIsDecoded(t *testing.T) { // P12.2: List and File are each other's way back
	for i := range 256 {
		d := api.Digest{31: byte(i)}
		x := laid(t, 10, contents{blob.File(d): ""})
		l, e := x.s.List()
		if e != api.OK || len(l) != 1 || l[0] != d || hex.EncodeToString(l[0][:]) != blob.File(d)[2:] {
			t.Errorf("List: %x, %d", l, e)
		}
	}
}
