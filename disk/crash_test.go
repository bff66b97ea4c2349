package disk_test

import (
	"maps"
	"math"
	"math/rand"
	"slices"
	"strings"
	"testing"

	"hallmark/api"
	"hallmark/disk"
)

// wide are numbers around those that matter where there are n things.
func wide(n int) []int {
	l := []int{math.MinInt, -5, -1, math.MaxInt}
	for i := range n + 3 {
		l = append(l, i)
	}
	return l
}

func TestCrashExample(t *testing.T) { // P9.3
	for _, synced := range []bool{false, true} {
		for _, x := range []struct {
			keep, part int
			want       contents
		}{{1, 1, contents{"a": "x"}}, {0, 9, contents{}}} {
			d := made(t, 100)
			d.Create("a")
			d.Append("a", []byte("xy"))
			if synced {
				d.Sync()
				x.want = contents{"a": "xy"}
			}
			if e := d.Crash(x.keep, x.part); e != api.OK || !maps.Equal(shown(t, d), x.want) || d.Loose() != 0 {
				t.Errorf("Crash(%d, %d), synced %v: %d, %q, %d loose", x.keep, x.part, synced, e, shown(t, d), d.Loose())
			}
		}
	}
	d := made(t, 100)
	if d.Fuse(1) != api.OK || d.Create("b") != api.OK || d.Down() || d.Sync() != api.ErrDown || !d.Down() {
		t.Error("Fuse(1)")
	}
	if b, e := d.Read("b", 0, 1); e != api.ErrDown || len(b) != 0 {
		t.Errorf("Read: %d", e)
	}
	if d.Crash(9, 0) != api.OK || d.Down() || !maps.Equal(shown(t, d), contents{"b": ""}) {
		t.Errorf("after the crash: %v, %q", d.Down(), shown(t, d))
	}
}

// everyKind are changes of each kind, on files that are there and on new ones.
func everyKind() []act {
	return []act{
		appends("a", "12345"), creates("c"), appends("c", "678"), renames("a", "d"), renames("c", "b"), appends("b", ""), renames("b", "b"),
		removes("d"), creates("a"), appends("a", "9"), renames("b", "a"), removes("a"), creates("b"), renames("b", "c"), appends("c", "0"), removes("c"), creates("c"),
	}
}

func TestCrashAtEachPlace(t *testing.T) { // P9.3, P9.4
	begin := []act{creates("a"), appends("a", "xyz"), creates("b"), appends("b", "uv"), syncs()}
	for n := range len(everyKind()) + 1 {
		for _, keep := range wide(n) {
			for _, part := range wide(5) {
				d, m := made(t, 100), newModel(100)
				acts := slices.Concat(begin, everyKind()[:n], []act{crashes(keep, part)})
				if !agrees(t, d, m, acts...) {
					return
				}
			}
		}
	}
}

func TestCrashOfEachSequence(t *testing.T) { // P9.3, P9.4: all sequences of few changes
	all := []act{creates("a"), creates("b"), appends("a", "12"), appends("b", "3"), removes("a"), removes("b"), renames("a", "b"), renames("b", "a"), renames("a", "a"), syncs()}
	var try func(acts []act, n int)
	try = func(acts []act, n int) {
		for keep := range len(acts) + 1 {
			for part := range 3 {
				d, m := made(t, 4), newModel(4)
				if t.Failed() || !agrees(t, d, m, append(slices.Clip(acts), crashes(keep, part))...) {
					return
				}
			}
		}
		if n == 0 {
			return
		}
		for _, a := range all {
			try(append(slices.Clip(acts), a), n-1)
		}
	}
	try([]act{creates("a")}, 4)
	try([]act{creates("b"), appends("b", "45"), creates("a"), appends("a", "6"), syncs()}, 3)
}

func TestCrashLeavesOneOfTheStates(t *testing.T) { // P9.4: said without the model
	c := []contents{{"a": "xyz"}}
	for _, a := range everyKind() {
		if a.name != "b" && a.to != "b" {
			c = append(c, after(c[len(c)-1], a))
		}
	}
	for keep := range len(c) + 1 {
		d := made(t, 100)
		d.Create("a")
		d.Append("a", []byte("xyz"))
		d.Sync()
		for _, a := range everyKind() {
			if a.name != "b" && a.to != "b" {
				a.on(d)
			}
		}
		if d.Loose() != len(c)-1 {
			t.Fatalf("%d loose changes, not %d", d.Loose(), len(c)-1)
		}
		d.Crash(keep, 0)
		if got := shown(t, d); !maps.Equal(got, c[min(keep, len(c)-1)]) {
			t.Errorf("Crash(%d, 0): %q, not %q", keep, got, c[min(keep, len(c)-1)])
		}
	}
}

func TestCrashAgain(t *testing.T) { // P9.3: what a crash left is durable
	d, m := made(t, 100), newModel(100)
	agrees(t, d, m, creates("a"), appends("a", "12345"), crashes(1, 2), crashes(0, 0), crashes(9, 9), appends("a", "67"), crashes(0, 1), crashes(-1, -1),
		renames("a", "b"), creates("a"), crashes(1, 0), appends("b", "89"), syncs(), crashes(0, 0), removes("b"), crashes(0, 0), removes("b"), crashes(1, 0), crashes(0, 0))
}

func TestCrashOfAppends(t *testing.T) { // P9.3: only bytes of the first Append that isn't kept
	d, m := made(t, 100), newModel(100)
	agrees(t, d, m, creates("a"), creates("b"), appends("a", "12"), appends("b", "345"), appends("a", "67"), crashes(3, 2))
	if got := shown(t, d); !maps.Equal(got, contents{"a": "12", "b": "34"}) {
		t.Errorf("%q", got)
	}
	d, m = made(t, 100), newModel(100)
	agrees(t, d, m, creates("a"), appends("a", "12"), renames("a", "b"), appends("b", "345"), removes("b"), crashes(3, 9))
	if got := shown(t, d); !maps.Equal(got, contents{"b": "12345"}) {
		t.Errorf("%q", got)
	}
}

func TestCrashOfGreatAppend(t *testing.T) { // P9.3: as many of its bytes as an Append can have
	for _, part := range []int{1<<20 - 1, 1 << 20, 1<<20 + 1, 1 << 21, math.MaxInt} {
		d := made(t, 2<<20)
		d.Create("a")
		d.Append("a", []byte("begin"))
		d.Sync()
		d.Append("a", make([]byte, 1<<20))
		d.Append("a", []byte("end"))
		d.Crash(0, part)
		if want := 5 + min(part, 1<<20); d.Used() != want {
			t.Errorf("Crash(0, %d): %d bytes, not %d", part, d.Used(), want)
		}
	}
}

func TestFuse(t *testing.T) { // P9.3
	for n := -3; n < len(everyKind())+4; n++ {
		for _, keep := range wide(len(everyKind())) {
			d, m := made(t, 100), newModel(100)
			acts := slices.Concat([]act{creates("a"), creates("b"), fuses(n)}, everyKind(), []act{syncs(), appends("c", "1"), crashes(keep, 0), appends("a", "1"), syncs()})
			if !agrees(t, d, m, acts...) {
				return
			}
		}
	}
	for _, n := range []int{math.MinInt, -1 << 40, -2, -1, 1 << 40, math.MaxInt} {
		d, m := made(t, 100), newModel(100)
		agrees(t, d, m, slices.Concat([]act{creates("a"), creates("b"), fuses(n)}, everyKind(), []act{syncs()}, everyKind())...)
	}
}

func TestFuseIsSetAgain(t *testing.T) { // P9.3
	d, m := made(t, 100), newModel(100)
	agrees(t, d, m, fuses(0), fuses(2), creates("a"), fuses(1), creates("b"), fuses(-1), creates("c"), syncs(), fuses(0), fuses(-9), removes("a"), fuses(0), removes("b"), fuses(5), removes("b"), crashes(0, 0), removes("b"))
	d, m = made(t, 100), newModel(100)
	agrees(t, d, m, fuses(1), crashes(0, 0), creates("a"), creates("b"), syncs())
}

func TestFuseBurnsBySteps(t *testing.T) { // P9.3: neither by what is refused nor by what changes nothing
	d, m := made(t, 3), newModel(3)
	refused := []act{
		creates(""), creates("a"), creates(strings.Repeat("x", 161)), appends("b", ""), appends("a", "1234"), appends("a", strings.Repeat("x", 1<<20+1)),
		removes("b"), renames("b", "a"), renames("a", ""), renames("a", strings.Repeat("x", 161)),
	}
	agrees(t, d, m, creates("a"), fuses(1))
	for range 3 {
		agrees(t, d, m, refused...)
		d.Read("a", 0, 1)
		d.Read("b", -1, 1)
		d.Size("a")
		d.Names("")
	}
	if d.Down() || d.Loose() != 1 {
		t.Errorf("Down, Loose: %v, %d", d.Down(), d.Loose())
	}
	agrees(t, d, m, appends("a", ""))
	agrees(t, d, m, refused...)
	if d.Down() || d.Loose() != 2 {
		t.Errorf("Down, Loose: %v, %d", d.Down(), d.Loose())
	}
	agrees(t, d, m, syncs(), creates(""), crashes(0, 0), creates(""))
}

func TestFuseOfEachStep(t *testing.T) { // P9.3: each kind of step burns it, and is not performed without
	for _, a := range []act{creates("b"), appends("a", "1"), appends("a", ""), removes("a"), renames("a", "b"), renames("a", "a"), syncs()} {
		for n := range 3 {
			d, m := made(t, 9), newModel(9)
			agrees(t, d, m, creates("a"), fuses(n), a, syncs(), syncs())
			agrees(t, d, m, crashes(9, 9))
		}
		d, m := made(t, 9), newModel(9)
		if !agrees(t, d, m, creates("a"), fuses(0), a) || !d.Down() || d.Loose() != 1 {
			t.Errorf("%v: Down, Loose: %v, %d", a, d.Down(), d.Loose())
		}
	}
}

func TestDown(t *testing.T) { // P9.2, P9.3: ErrDown is told ahead of all others
	d := made(t, 9)
	d.Create("a")
	d.Append("a", []byte("12"))
	d.Fuse(0)
	d.Sync()
	for _, a := range []act{
		creates(""), creates("a"), creates("b"), appends("a", "1"), appends("b", ""), appends("a", "1234567890"), appends("a", strings.Repeat("x", 1<<20+1)),
		removes("a"), removes("b"), renames("a", "b"), renames("b", ""), renames("a", ""), syncs(), fuses(0), fuses(1), fuses(-1),
	} {
		if e := a.on(d); e != api.ErrDown {
			t.Errorf("%v answers %d", a, e)
		}
	}
	for _, s := range []string{"a", "b", ""} {
		if b, e := d.Read(s, 0, 9); e != api.ErrDown || len(b) != 0 {
			t.Errorf("Read(%q): %q, %d", s, b, e)
		}
		if b, e := d.Read(s, -1, -1); e != api.ErrDown || len(b) != 0 {
			t.Errorf("Read(%q): %q, %d", s, b, e)
		}
		if n, e := d.Size(s); e != api.ErrDown || n != 0 {
			t.Errorf("Size(%q): %d, %d", s, n, e)
		}
		if l, e := d.Names(s); e != api.ErrDown || len(l) != 0 {
			t.Errorf("Names(%q): %q, %d", s, l, e)
		}
	}
	if d.Used() != 2 || d.Loose() != 2 || !d.Down() {
		t.Errorf("Used, Loose, Down: %d, %d, %v", d.Used(), d.Loose(), d.Down())
	}
	if e := d.Crash(9, 0); e != api.OK || d.Used() != 2 || d.Loose() != 0 || d.Down() {
		t.Errorf("Crash: %d; Used, Loose, Down: %d, %d, %v", e, d.Used(), d.Loose(), d.Down())
	}
}

func TestCrashGivesRoomBack(t *testing.T) { // P9.2, P9.3: the room that undone changes took, and none that they gave
	d, m := made(t, 10), newModel(10)
	agrees(t, d, m, creates("a"), appends("a", "123456"), creates("b"), syncs(), appends("b", "7890"), appends("b", "x"), crashes(0, 3), appends("b", "12"), appends("b", "1"),
		syncs(), removes("a"), appends("b", "123456"), appends("b", "1"), crashes(0, 0), appends("b", "1"), creates("c"), renames("c", "a"), appends("b", "123456"), appends("b", "1"), crashes(1, 0), appends("c", "1"), appends("b", "1"))
}

func TestCrashOfManyFiles(t *testing.T) { // P9.3: the number of files is that of the files that are left
	d, m := made(t, 10), newModel(10)
	for i := range 4095 {
		d.Create(numbered(i))
		m.now()[numbered(i)] = ""
	}
	d.Sync()
	agrees(t, d, m, creates("a"), creates("b"), crashes(0, 0), creates("b"), creates("a"), removes("b"), creates("a"), creates("b"), crashes(2, 0), creates("a"), creates("b"), renames("a", numbered(0)), creates("b"), crashes(1, 0), creates("c"))
}

// randomAct is any act, mostly one that is not refused.
func randomAct(r *rand.Rand) act {
	names := []string{"a", "b", "c", "a/b", "a+", "", "\xff\x00", strings.Repeat("n", 160), strings.Repeat("n", 161)}
	any := func() string {
		if r.Intn(8) > 0 {
			return names[r.Intn(4)]
		}
		return names[r.Intn(len(names))]
	}
	switch r.Intn(20) {
	case 0, 1, 2:
		return creates(any())
	case 3, 4, 5, 6, 7, 8:
		b := make([]byte, r.Intn(12))
		r.Read(b)
		return appends(any(), string(b))
	case 9, 10:
		return removes(any())
	case 11, 12, 13:
		return renames(any(), any())
	case 14, 15:
		return syncs()
	case 16:
		return fuses(r.Intn(20) - 3)
	}
	if r.Intn(10) == 0 {
		return crashes(r.Int()-r.Int(), r.Int()-r.Int())
	}
	return crashes(r.Intn(12)-1, r.Intn(14)-1)
}

func TestRandom(t *testing.T) { // P9.1 to P9.4
	r := rand.New(rand.NewSource(9))
	for range 400 {
		room := r.Intn(60)
		d, m := made(t, room), newModel(room)
		for range 300 {
			if !agrees(t, d, m, randomAct(r)) {
				return
			}
		}
	}
}

func TestSameAgain(t *testing.T) { // R5: what is answered depends on what was done alone
	run := func() []any {
		r := rand.New(rand.NewSource(95))
		d := made(t, 50)
		var l []any
		for range 2000 {
			l = append(l, randomAct(r).on(d), d.Used(), d.Loose(), d.Down())
			names, e := d.Names("")
			l = append(l, strings.Join(names, "|"), e)
		}
		return l
	}
	first := run()
	for range 3 {
		if !slices.Equal(first, run()) {
			t.Error("another answer")
		}
	}
}

func TestDisksAreApart(t *testing.T) { // R5
	r := rand.New(rand.NewSource(96))
	d, e := made(t, 30), made(t, 30)
	m, n := newModel(30), newModel(30)
	for range 3000 {
		if !agrees(t, d, m, randomAct(r)) || !agrees(t, e, n, randomAct(r)) || !m.is(t, d) {
			return
		}
	}
}

func TestOtherDisksPanicNowhere(t *testing.T) { // R1: disks that New didn't make, and copies
	r := rand.New(rand.NewSource(97))
	for range 300 {
		var zero disk.Disk
		made := made(t, 40)
		l := []*disk.Disk{&zero, made}
		for range 200 {
			if r.Intn(20) == 0 && len(l) < 6 {
				c := *l[r.Intn(len(l))]
				l = append(l, &c)
			}
			d := l[r.Intn(len(l))]
			randomAct(r).on(d)
			d.Read("a", r.Intn(5), r.Intn(5))
			d.Names("")
			d.Size("b")
		}
	}
}
