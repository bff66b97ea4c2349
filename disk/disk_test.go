package disk_test

import (
	"bytes"
	"fmt"
	"math"
	"slices"
	"strings"
	"testing"
	"unsafe"

	"hallmark/api"
	"hallmark/disk"
)

// numbered is one of many names.
func numbered(i int) string { return fmt.Sprintf("f%04d", i) }

func TestNew(t *testing.T) { // P9.1
	for _, room := range []int{0, 1, 1000, 1<<26 - 1, 1 << 26} {
		d := made(t, room)
		if !newModel(room).is(t, d) {
			t.Errorf("New(%d) is not empty", room)
		}
		for range 3 {
			if e := d.Sync(); e != api.OK {
				t.Errorf("New(%d) has a fuse: %d", room, e)
			}
		}
	}
	for _, room := range []int{-1, -1000, math.MinInt, 1<<26 + 1, 1 << 27, 1 << 40, math.MaxInt} {
		if d, e := disk.New(room); d != nil || e != api.ErrArg {
			t.Errorf("New(%d) = %v, %d", room, d, e)
		}
	}
}

func TestIsName(t *testing.T) { // P9.1
	for _, s := range []string{"a", "\x00", "\xff", "/", "a/b", " ", "é", "..", "b+", strings.Repeat("a", 159), strings.Repeat("\xff", 160), strings.Repeat("é", 80)} {
		if !disk.IsName(s) {
			t.Errorf("IsName(%q) = false", s)
		}
	}
	for _, s := range []string{"", strings.Repeat("a", 161), strings.Repeat("é", 81), strings.Repeat("a", 1<<20)} {
		if disk.IsName(s) {
			t.Errorf("IsName of %d bytes = true", len(s))
		}
	}
	for i := range 256 {
		if !disk.IsName(string([]byte{byte(i)})) {
			t.Errorf("IsName of the byte %d = false", i)
		}
	}
}

func TestNames(t *testing.T) { // P9.1: what IsName says is what Create and Rename accept
	for _, s := range []string{"", "a", "\x00", "\xff\xfe", strings.Repeat("a", 160), strings.Repeat("a", 161), strings.Repeat("é", 80), strings.Repeat("é", 81)} {
		d := made(t, 9)
		want := api.OK
		if !disk.IsName(s) {
			want = api.ErrArg
		}
		if e := d.Create(s); e != want {
			t.Errorf("Create(%q) = %d", s, e)
		}
		d.Create("x")
		if e := d.Rename("x", s); e != want {
			t.Errorf("Rename(x, %q) = %d", s, e)
		}
	}
}

func TestChanges(t *testing.T) { // P9.1, P9.2
	d, m := made(t, 100), newModel(100)
	agrees(t, d, m,
		creates("a"), appends("a", "xy"), appends("a", ""), appends("a", "z"), creates("b"), appends("b", "uv"), renames("a", "c"), creates("a"), renames("c", "b"),
		removes("a"), syncs(), appends("b", "w"), renames("b", "b"), syncs(), removes("b"), creates("b"), syncs(), syncs(),
		removes("a"), appends("a", ""), renames("a", "b"), renames("c", "c"), creates("b"))
}

func TestRenameToItself(t *testing.T) { // P9.1: no other file has the name
	d, m := made(t, 100), newModel(100)
	agrees(t, d, m, creates("a"), appends("a", "xy"), renames("a", "a"), appends("a", "z"), crashes(3, 1), renames("a", "a"), crashes(0, 0), appends("a", "z"))
	if got := shown(t, d)["a"]; got != "xyzz" {
		t.Errorf("%q", got)
	}
}

func TestRenameGivesRoom(t *testing.T) { // P9.1, P9.2: the bytes of a file that is replaced are gone
	d, m := made(t, 5), newModel(5)
	agrees(t, d, m, creates("a"), appends("a", "12"), creates("b"), appends("b", "345"), appends("a", "6"), renames("a", "b"), appends("b", "678"), appends("b", "9"))
}

func TestRefusals(t *testing.T) { // P9.1, P9.4: in their order, and nothing is changed
	long, longer := strings.Repeat("n", 160), strings.Repeat("n", 161)
	big := strings.Repeat("x", 1<<20+1)
	for _, x := range []struct {
		a act
		e api.Errno
	}{
		{creates(""), api.ErrArg}, {creates(longer), api.ErrArg}, {creates("a"), api.ErrTwice}, {creates(long), api.OK},
		{appends("b", ""), api.ErrNone}, {appends("", ""), api.ErrNone}, {appends(longer, ""), api.ErrNone}, {appends("b", big), api.ErrNone}, {appends("b", "123"), api.ErrNone},
		{appends("a", big), api.ErrLimit}, {appends("a", big[1:]), api.ErrFull}, {appends("a", "123"), api.ErrFull}, {appends("a", "12"), api.OK}, {appends("a", ""), api.OK},
		{removes("b"), api.ErrNone}, {removes(""), api.ErrNone}, {removes(longer), api.ErrNone}, {removes("a"), api.OK},
		{renames("b", "c"), api.ErrNone}, {renames("b", ""), api.ErrNone}, {renames("", ""), api.ErrNone}, {renames("b", "a"), api.ErrNone}, {renames(longer, longer), api.ErrNone},
		{renames("a", ""), api.ErrArg}, {renames("a", longer), api.ErrArg}, {renames("a", long), api.OK},
	} {
		d, m := made(t, 5), newModel(5)
		agrees(t, d, m, creates("a"), appends("a", "xyz"))
		if e := x.a.on(d); e != x.e {
			t.Errorf("%v answers %d, not %d", x.a, e, x.e)
		}
		if x.e != api.OK {
			m.is(t, d)
		}
		// A refusal is told ahead of the power's going, and leaves the power on.
		d, m = made(t, 5), newModel(5)
		agrees(t, d, m, creates("a"), appends("a", "xyz"), fuses(0))
		want := x.e
		if want == api.OK {
			want = api.ErrDown
		}
		if e := x.a.on(d); e != want || d.Down() != (want == api.ErrDown) {
			t.Errorf("%v without a fuse answers %d, not %d; Down: %v", x.a, e, want, d.Down())
		}
	}
}

func TestMaxFiles(t *testing.T) { // P9.1
	d := made(t, 9)
	for i := range 4096 {
		if e := d.Create(numbered(i)); e != api.OK {
			t.Fatalf("file %d: %d", i, e)
		}
	}
	for _, x := range []struct {
		a act
		e api.Errno
	}{
		{creates("x"), api.ErrFull}, {creates(""), api.ErrArg}, {creates(numbered(7)), api.ErrTwice}, {fuses(0), api.OK}, {creates("x"), api.ErrFull}, {fuses(-1), api.OK},
		{renames(numbered(0), "x"), api.OK}, {creates(numbered(0)), api.ErrFull}, {appends("x", "1"), api.OK},
		{renames("x", numbered(1)), api.OK}, {creates("x"), api.OK}, {creates("y"), api.ErrFull}, {removes("x"), api.OK}, {creates("y"), api.OK}, {creates("x"), api.ErrFull},
	} {
		if e := x.a.on(d); e != x.e {
			t.Errorf("%v answers %d, not %d", x.a, e, x.e)
		}
	}
	if l, e := d.Names(""); len(l) != 4096 || e != api.OK {
		t.Errorf("%d names, %d", len(l), e)
	}
}

func TestRoom(t *testing.T) { // P9.1: all files together
	d, m := made(t, 4), newModel(4)
	agrees(t, d, m, creates("a"), creates("b"), appends("a", "12345"), appends("a", "123"), appends("b", "45"), appends("b", "4"), appends("a", "5"), appends("b", ""), removes("a"), appends("b", "123"), appends("b", "4"))
	d, m = made(t, 0), newModel(0)
	agrees(t, d, m, creates("a"), appends("a", ""), appends("a", "1"), creates("b"))
	d = made(t, 1<<26)
	d.Create("a")
	big := make([]byte, 1<<20)
	for i := range 64 {
		if e := d.Append("a", big); e != api.OK {
			t.Fatalf("MiB %d: %d", i, e)
		}
	}
	if e := d.Append("a", []byte{1}); e != api.ErrFull || d.Used() != 1<<26 {
		t.Errorf("Append answers %d, with %d bytes", e, d.Used())
	}
	if n, e := d.Size("a"); n != 1<<26 || e != api.OK {
		t.Errorf("Size: %d, %d", n, e)
	}
}

func TestRecordLimit(t *testing.T) { // P9.1
	d := made(t, 3<<20)
	d.Create("a")
	for _, x := range []struct {
		n int
		e api.Errno
	}{{1 << 20, api.OK}, {1<<20 + 1, api.ErrLimit}, {1<<20 - 1, api.OK}, {4 << 20, api.ErrLimit}, {1 << 20, api.OK}, {2, api.ErrFull}, {1, api.OK}, {1, api.ErrFull}, {0, api.OK}} {
		if e := d.Append("a", make([]byte, x.n)); e != x.e {
			t.Errorf("Append of %d bytes answers %d, not %d", x.n, e, x.e)
		}
	}
}

func TestRead(t *testing.T) { // P9.2
	d := made(t, 100)
	d.Create("a")
	d.Append("a", []byte("0123"))
	d.Append("a", []byte("456789"))
	d.Create("b")
	whole := "0123456789"
	for _, at := range append(wide(10), 1<<32, 1<<62, math.MaxInt-1) {
		for _, n := range append(wide(10), 1<<32, 1<<62, math.MaxInt-1) {
			want, wantE := "", api.OK
			if at < 0 || n < 0 {
				wantE = api.ErrArg
			}
			for i := range whole {
				if wantE == api.OK && i >= at && i-at < n {
					want += whole[i : i+1]
				}
			}
			if b, e := d.Read("a", at, n); string(b) != want || e != wantE {
				t.Errorf("Read(a, %d, %d) = %q, %d, not %q, %d", at, n, b, e, want, wantE)
			}
			if b, e := d.Read("b", at, n); len(b) != 0 || e != wantE {
				t.Errorf("Read(b, %d, %d) = %q, %d, not %d", at, n, b, e, wantE)
			}
			for _, s := range []string{"c", "", strings.Repeat("a", 161)} {
				if b, e := d.Read(s, at, n); len(b) != 0 || e != api.ErrNone {
					t.Errorf("Read(%q, %d, %d) = %q, %d", s, at, n, b, e)
				}
			}
		}
	}
}

func TestSize(t *testing.T) { // P9.2
	d := made(t, 100)
	d.Create("a")
	for i := range 10 {
		if n, e := d.Size("a"); n != 2*i || e != api.OK {
			t.Errorf("Size = %d, %d", n, e)
		}
		d.Append("a", []byte("xy"))
	}
	d.Create("gone")
	d.Remove("gone")
	for _, s := range []string{"", "b", "gone", "a\x00", strings.Repeat("a", 161)} {
		if n, e := d.Size(s); n != 0 || e != api.ErrNone {
			t.Errorf("Size(%q) = %d, %d", s, n, e)
		}
	}
}

func TestNamesBeginSo(t *testing.T) { // P9.2
	all := []string{"\x00", "A", "a", "a\x00", "a+", "a/", "a/b", "a/c", "aa", "b", "b/", "é", "\xff", "\xff\x00", "\xff\xff"}
	for i := range all {
		d := made(t, 9)
		for k := range all {
			d.Create(all[(i+7*k)%len(all)])
		}
		for _, head := range append([]string{"", "a/bb", "c", "\xc3", strings.Repeat("a", 200)}, all...) {
			var want []string
			for _, s := range all {
				if len(s) >= len(head) && s[:len(head)] == head {
					want = append(want, s)
				}
			}
			slices.Sort(want)
			if l, e := d.Names(head); !slices.Equal(l, want) || e != api.OK {
				t.Errorf("Names(%q) = %q, %d, not %q", head, l, e, want)
			}
		}
	}
	d := made(t, 9)
	if l, e := d.Names(""); len(l) != 0 || e != api.OK {
		t.Errorf("Names of an empty disk: %q, %d", l, e)
	}
}

func TestLoose(t *testing.T) { // P9.2: each change counts, and Sync ends it
	d := made(t, 9)
	for i, a := range []act{creates("a"), appends("a", "1"), appends("a", ""), renames("a", "b"), renames("b", "b"), creates("a"), renames("b", "a"), removes("a")} {
		if e := a.on(d); e != api.OK || d.Loose() != i+1 {
			t.Errorf("%v: %d, %d loose", a, e, d.Loose())
		}
	}
	if e := d.Sync(); e != api.OK || d.Loose() != 0 || d.Used() != 0 {
		t.Errorf("Sync: %d, %d loose, %d bytes", e, d.Loose(), d.Used())
	}
}

func TestNilDisk(t *testing.T) { // R1, P9.2: ErrNil is told ahead of all others
	var d *disk.Disk
	for _, s := range []string{"", "a", strings.Repeat("a", 161)} {
		for _, a := range []act{creates(s), appends(s, ""), appends(s, strings.Repeat("x", 1<<20+1)), removes(s), renames(s, "a"), renames("a", s), syncs(), fuses(0), fuses(-1), crashes(0, 0), crashes(-1, 9)} {
			if e := a.on(d); e != api.ErrNil {
				t.Errorf("%v answers %d", a, e)
			}
		}
		for _, n := range []int{-1, 0, 1} {
			if b, e := d.Read(s, n, 1); len(b) != 0 || e != api.ErrNil {
				t.Errorf("Read: %q, %d", b, e)
			}
		}
		if n, e := d.Size(s); n != 0 || e != api.ErrNil {
			t.Errorf("Size: %d, %d", n, e)
		}
		if l, e := d.Names(s); len(l) != 0 || e != api.ErrNil {
			t.Errorf("Names: %q, %d", l, e)
		}
	}
	if d.Used() != 0 || d.Loose() != 0 || d.Down() {
		t.Errorf("Used, Loose, Down: %d, %d, %v", d.Used(), d.Loose(), d.Down())
	}
}

func TestAppendKeepsNothing(t *testing.T) { // R3
	d := made(t, 100)
	d.Create("a")
	for _, n := range []int{1, 2, 3, 8, 1, 40} {
		p := bytes.Repeat([]byte{'p'}, 60)
		d.Append("a", p[:n])
		d.Append("a", []byte("q"))
		if !bytes.Equal(p, bytes.Repeat([]byte{'p'}, 60)) {
			t.Fatal("the argument is changed")
		}
		for i := range p {
			p[i] = 'x'
		}
	}
	want := "pqppqpppqppppppppqpq" + strings.Repeat("p", 40) + "q"
	if b, _ := d.Read("a", 0, 100); string(b) != want {
		t.Errorf("%q, not %q", b, want)
	}
}

func TestReadIsNewMemory(t *testing.T) { // R3
	d := made(t, 100)
	d.Create("a")
	d.Append("a", []byte("0123456789"))
	for at := range 11 {
		for n := range 11 {
			b, _ := d.Read("a", at, n)
			b = b[:cap(b)]
			for i := range b {
				b[i] = 'x'
			}
		}
	}
	b, _ := d.Read("a", 0, 5)
	c, _ := d.Read("a", 0, 5)
	b = append(b[:0], "xxxxxxxxxxxx"...)
	d.Append("a", []byte("a"))
	d.Remove("a")
	d.Create("b")
	d.Append("b", []byte("yyyyyyyyyyy"))
	if string(c) != "01234" {
		t.Errorf("%q", c)
	}
	d.Crash(2, 0)
	if b, _ := d.Read("a", 0, 100); string(b) != "0123456789" {
		t.Errorf("%q", b)
	}
}

func TestNamesAreNewMemory(t *testing.T) { // R3
	d := made(t, 100)
	for _, s := range []string{"a", "b", "c"} {
		d.Create(s)
	}
	l, _ := d.Names("")
	l = l[:cap(l)]
	for i := range l {
		l[i] = "x"
	}
	l, _ = d.Names("")
	m, _ := d.Names("")
	if !slices.Equal(l, []string{"a", "b", "c"}) {
		t.Errorf("%q", l)
	}
	for i := range l {
		if unsafe.StringData(l[i]) == unsafe.StringData(m[i]) {
			t.Errorf("two answers share %q", l[i])
		}
	}
}

func TestTextsAreNotKept(t *testing.T) { // R3
	b := []byte("a")
	text := func(c byte) string {
		b[0] = c
		return unsafe.String(&b[0], 1)
	}
	d, m := made(t, 100), newModel(100)
	do := func(a act, c byte) {
		a.name = text(c)
		a.on(d)
		b[0] = '?'
		a.name = string(c)
		m.do(a)
		m.is(t, d)
	}
	do(creates(""), 'a')
	do(appends("", "12"), 'a')
	do(creates(""), 'b')
	do(appends("", "345"), 'b')
	do(renames("", "c"), 'a')
	d.Rename("c", text('d'))
	b[0] = '?'
	agrees(t, d, m, crashes(4, 0))
	agrees(t, d, m, creates("c"), renames("c", "d"))
	do(renames("", "e"), 'b')
	do(removes(""), 'd')
	do(creates(""), 'd')
	for keep := range 3 {
		agrees(t, d, m, crashes(3-keep, 0))
	}
}
