package taglog_test

import (
	"fmt"
	"maps"
	"math"
	"math/rand"
	"slices"
	"strings"
	"testing"
	"unsafe"

	"hallmark/api"
	"hallmark/disk"
	"hallmark/merkle"
	"hallmark/table"
	"hallmark/taglog"
)

func TestExample(t *testing.T) { // P15.1, P15.2
	_, x, l := fresh(t, 1000)
	must(t, l.Add([]byte("a")))
	must(t, l.Add([]byte("b")))
	a, b := merkle.Leaf([]byte("a")), merkle.Leaf([]byte("b"))
	if l.Size() != 2 {
		t.Errorf("Size = %d", l.Size())
	}
	if d, e := l.Root(1); d != a || e != api.OK {
		t.Errorf("Root(1) = %x, %d", d, e)
	}
	if way, e := l.Path(1, 2); !slices.Equal(way, []api.Digest{a}) || e != api.OK {
		t.Errorf("Path(1, 2) = %x, %d", way, e)
	}
	if way, e := l.Proof(1, 2); !slices.Equal(way, []api.Digest{b}) || e != api.OK {
		t.Errorf("Proof(1, 2) = %x, %d", way, e)
	}
	if d, e := l.Root(3); d != (api.Digest{}) || e != api.ErrArg {
		t.Errorf("Root(3) = %x, %d", d, e)
	}
	if c := shown(x); !maps.Equal(c, contents{"g/00000000": "a", "g/00000001": "b"}) {
		t.Errorf("the table has %q", c)
	}
}

func TestKey(t *testing.T) { // P15.1: of any number, also one that is no entry's
	for i, want := range map[int]string{
		0: "g/00000000", 1: "g/00000001", 10: "g/0000000a", 0xabcdef01: "g/abcdef01", 1<<32 - 1: "g/ffffffff", 1 << 32: "g/00000000",
		1<<40 + 0x1f: "g/0000001f", -1: "g/ffffffff", -256: "g/ffffff00", math.MaxInt: "g/ffffffff", math.MinInt: "g/00000000", math.MinInt + 2: "g/00000002",
	} {
		if k := taglog.Key(i); k != want || key(i) != want {
			t.Errorf("Key(%d) = %s, not %s", i, k, want)
		}
	}
	r := rand.New(rand.NewSource(151))
	for range 10000 {
		i := int(r.Uint64())
		if k := taglog.Key(i); k != key(i) {
			t.Errorf("Key(%d) = %s, not %s", i, k, key(i))
		}
	}
}

// entries are n entries, some of them the same, and some that look like a leaf or a node.
func entries(n int) []string {
	some := []string{"", "a", "a", "\x00", "\x00a", "\x01" + strings.Repeat("x", 64), "g/00000000", "\xff\xfe", strings.Repeat("long", 300)}
	var l []string
	for i := range n {
		p := fmt.Sprint("entry ", i)
		if i%3 != 2 {
			p = some[i%len(some)]
		}
		l = append(l, p)
	}
	return l
}

func TestGrow(t *testing.T) { // P15.1, P15.2: with one entry after another, also of a log that is opened again
	d, x, l := fresh(t, 1<<20)
	all := entries(34)
	for n := range all {
		proves(t, l, all[:n]...)
		must(t, l.Add([]byte(all[n])))
		if v, ok := x.Get(key(n)); string(v) != all[n] || !ok || x.Len() != n+1 {
			t.Fatalf("the key of entry %d: %.99q, %v; %d keys", n, v, ok, x.Len())
		}
	}
	proves(t, l, all...)
	proves(t, opened(t, x, all...), all...)
	proves(t, opened(t, stored(t, d), all...), all...)
	must(t, x.Fold())
	proves(t, l, all...)
	must(t, l.Add([]byte("more")))
	opened(t, stored(t, d), append(all, "more")...)
}

func TestWaysAreAccepted(t *testing.T) { // P15.2: by those who know the roots alone
	_, _, l := fresh(t, 1<<20)
	all := entries(20)
	for _, p := range all {
		must(t, l.Add([]byte(p)))
	}
	for n := range len(all) + 1 {
		top, _ := l.Root(n)
		for m := range n + 1 {
			old, _ := l.Root(m)
			if way, e := l.Proof(m, n); !merkle.Extends(old, m, top, n, way) || e != api.OK {
				t.Errorf("Proof(%d, %d) = %x, %d", m, n, way, e)
			}
		}
		for i := range n {
			if way, e := l.Path(i, n); !merkle.Check(top, n, i, leaves(all)[i], way) || e != api.OK {
				t.Errorf("Path(%d, %d) = %x, %d", i, n, way, e)
			}
		}
	}
}

func TestLongEntries(t *testing.T) { // P15.1: as long as a value may be
	d, x, l := fresh(t, 4<<20)
	most := strings.Repeat("v", api.MaxValue)
	must(t, l.Add([]byte(most)))
	must(t, l.Add([]byte(most[1:])))
	if e := l.Add([]byte(most + "v")); e != api.ErrArg {
		t.Errorf("Add: %d", e)
	}
	has(t, l, most, most[1:])
	opened(t, x, most, most[1:])
	opened(t, stored(t, d), most, most[1:])
}

func TestAddWithMore(t *testing.T) { // P15.1: what is applied with an entry, in its order
	d, x, l := fresh(t, 1<<20)
	var want contents
	var all []string
	for n, more := range [][]table.Change{
		nil,
		{},
		{set("a", "1")},
		{set("a", "2"), set("b", "3"), gone("missing")},
		{gone("a"), set("c", "4"), set("c", "5"), set("d", "6"), gone("d")},
		{set("g", "no entry"), set("g.", "nor this"), set("g0", "nor this"), set("h/00000000", "nor this")},
		slices.Repeat([]table.Change{set("many", "m")}, table.Most-1),
	} {
		p := fmt.Sprint("entry ", n)
		must(t, l.Add([]byte(p), more...))
		all = append(all, p)
		want = after(after(want, more...), set(key(n), p))
		has(t, l, all...)
		for _, y := range []*table.Table{x, stored(t, d)} {
			if c := shown(y); !maps.Equal(c, want) {
				t.Fatalf("the table has %.300q, not %.300q", c, want)
			}
			opened(t, y, all...)
		}
	}
}

func TestAddSteps(t *testing.T) { // P15.1: those of one Apply, of what comes with the entry and then the entry
	for _, room := range []int{1000, 200, 150, 120, 90} {
		begin := func() *disk.Disk {
			d := newDisk(t, room)
			stored(t, d, set("a", "1"), set(key(0), "first"))
			return d
		}
		for _, more := range [][]table.Change{nil, {set("b", "2")}, {gone("a"), set(key(1), "not this"), set("c", "3")}, {gone("a"), gone("b"), set("d", strings.Repeat("d", 50))}} {
			alike(t, begin, func(d *disk.Disk) api.Errno {
				return opened(t, stored(t, d), "first").Add([]byte("second"), more...)
			}, func(d *disk.Disk) api.Errno {
				return stored(t, d).Apply(append(slices.Clip(more), set(key(1), "second"))...)
			})
		}
	}
}

func TestAddErrors(t *testing.T) { // P15.1: those of Apply; then nothing is changed
	full := strings.Repeat("v", api.MaxValue)
	long := make([]table.Change, 4)
	for i := range long {
		long[i] = set(fmt.Sprint(i), full)
	}
	for _, x := range []struct {
		name string
		p    string
		more []table.Change
		want api.Errno
	}{
		{"too many", "p", slices.Repeat([]table.Change{set("a", "x")}, table.Most), api.ErrLimit},
		{"too many, and something wrong", full + "v", slices.Repeat([]table.Change{gone("")}, table.Most), api.ErrLimit},
		{"too long an entry", full + "v", []table.Change{set("a", "x")}, api.ErrArg},
		{"no key", "p", []table.Change{set("a", "x"), set("", "x")}, api.ErrArg},
		{"too long a key", "p", []table.Change{gone(strings.Repeat("k", api.MaxKey+1))}, api.ErrArg},
		{"too long a value", "p", []table.Change{set("a", full+"v")}, api.ErrArg},
		{"too long a record", "p", long, api.ErrLimit},
		{"too long a record ahead of too long an entry", full + "v", long, api.ErrLimit},
		{"no room", full, long[:1], api.ErrFull},
		{"no power", "p", []table.Change{set("a", "x")}, api.ErrDown},
	} {
		d, y, l := fresh(t, 2*api.MaxValue)
		must(t, l.Add([]byte("first"), set("a", "1"), set("b", "2")))
		before, size := shown(y), d.Used()
		if x.want == api.ErrDown {
			must(t, d.Fuse(0))
		}
		for range 2 {
			if e := l.Add([]byte(x.p), x.more...); e != x.want {
				t.Errorf("%s: Add: %d, not %d", x.name, e, x.want)
			}
			proves(t, l, "first")
			if c := shown(y); !maps.Equal(c, before) || d.Used() != size {
				t.Errorf("%s: the table has %.300q; %d bytes", x.name, c, d.Used())
			}
		}
		// A table that was told of lost power stays as it is.
		if x.want == api.ErrDown {
			must(t, d.Crash(9, 0))
			if e := l.Add([]byte("p")); e != api.ErrDown {
				t.Errorf("Add behind a crash: %d", e)
			}
			proves(t, l, "first")
			l = opened(t, stored(t, d), "first")
		}
		must(t, l.Add([]byte("second")))
		proves(t, l, "first", "second")
		opened(t, stored(t, d), "first", "second")
	}
}

func TestNil(t *testing.T) { // R1
	if l, e := taglog.Open(nil); l != nil || e != api.ErrNil {
		t.Errorf("Open: %v, %d", l, e)
	}
	var l *taglog.Log
	if e := l.Add(nil); e != api.ErrNil {
		t.Errorf("Add: %d", e)
	}
	if e := l.Add(make([]byte, api.MaxValue+1), table.Change{}); e != api.ErrNil {
		t.Errorf("Add: %d", e)
	}
	if l.Size() != 0 {
		t.Errorf("Size = %d", l.Size())
	}
	for _, i := range append(outside(0), 0) {
		if p, e := l.Entry(i); len(p) != 0 || e != api.ErrNil {
			t.Errorf("Entry(%d) = %x, %d", i, p, e)
		}
		if d, e := l.Root(i); d != (api.Digest{}) || e != api.ErrNil {
			t.Errorf("Root(%d) = %x, %d", i, d, e)
		}
		for _, n := range append(outside(0), 0) {
			none := func() ([]api.Digest, api.Errno) { return nil, api.ErrNil }
			same(t, "Path", i, n, l.Path, none)
			same(t, "Proof", i, n, l.Proof, none)
		}
	}
}

func TestNoLog(t *testing.T) { // R1: of a log that nobody opened no call panics
	l := &taglog.Log{}
	l.Add([]byte("p"), set("a", "1"))
	l.Size()
	for _, i := range []int{-1, 0, 1} {
		l.Entry(i)
		l.Root(i)
		l.Path(i, 0)
		l.Proof(0, i)
	}
}

func TestLogsOfOneTable(t *testing.T) { // P15.1, P15.3: no entry takes another one's place, whichever log it comes by
	_, x, first := fresh(t, 1<<20)
	var all []string
	logs := []*taglog.Log{first, opened(t, x)}
	r := rand.New(rand.NewSource(152))
	for n := range 60 {
		all = append(all, fmt.Sprint("entry ", n))
		must(t, logs[r.Intn(len(logs))].Add([]byte(all[n])))
		if n%9 == 0 {
			logs = append(logs, opened(t, x, all...))
		}
		has(t, logs[r.Intn(len(logs))], all...)
	}
	for _, l := range logs {
		has(t, l, all...)
	}
}

func TestEntriesAreWhatTheTableHas(t *testing.T) { // P15.1, P15.2: whoever wrote it
	_, x, l := fresh(t, 1<<20)
	must(t, l.Add([]byte("a")))
	must(t, x.Apply(set(key(1), "b"), set(key(2), "c")))
	proves(t, l, "a", "b", "c")
	must(t, x.Apply(set(key(1), "B"), gone(key(2))))
	proves(t, l, "a", "B")
	must(t, l.Add([]byte("C")))
	proves(t, l, "a", "B", "C")
	// The entry comes behind what comes with it.
	must(t, l.Add([]byte("d"), set(key(3), "not this"), set(key(0), "A")))
	proves(t, l, "A", "B", "C", "d")
	must(t, l.Add([]byte("e"), gone(key(4))))
	proves(t, l, "A", "B", "C", "d", "e")
	opened(t, x, "A", "B", "C", "d", "e")
	must(t, x.Apply(gone(key(4)), gone(key(3)), gone(key(2)), gone(key(1)), gone(key(0))))
	proves(t, l)
	must(t, l.Add([]byte("again")))
	proves(t, l, "again")
}

func TestEntryBesideAStrangeKey(t *testing.T) { // P15.1: what comes with an entry may be anything; the entry is the next one
	_, x, l := fresh(t, 1<<20)
	must(t, l.Add([]byte("a")))
	must(t, l.Add([]byte("b"), set(key(8), "far"), set(key(1<<19), "farther"), set(key(-1), "strange"), set("g/", "strange"), set("g/x", "strange")))
	has(t, l, "a", "b")
	for _, i := range []int{-1, 2, 8, 1 << 19, 1<<32 - 1, 1 << 32} {
		if p, e := l.Entry(i); len(p) != 0 || e != api.ErrArg {
			t.Errorf("Entry(%d) = %q, %d", i, p, e)
		}
	}
	must(t, l.Add([]byte("c")))
	proves(t, l, "a", "b", "c")
	if y, e := taglog.Open(x); y != nil || e != api.ErrBroken {
		t.Errorf("Open: %v, %d", y, e)
	}
	must(t, l.Add([]byte("d"), gone(key(0))))
	if p, e := l.Entry(0); len(p) != 0 || e != api.ErrArg {
		t.Errorf("Entry(0) = %q, %d", p, e)
	}
	if p, e := l.Entry(3); string(p) != "d" || e != api.OK || l.Size() != 4 {
		t.Errorf("Entry(3) = %q, %d; Size = %d", p, e, l.Size())
	}
	// Nothing is promised of the root of entries that are missing but that it is told, or not.
	l.Root(4)
}

func TestLogsAreApart(t *testing.T) { // R5: several on one disk
	d := newDisk(t, 1<<20)
	want := map[string][]string{}
	logs := map[string]*taglog.Log{}
	r := rand.New(rand.NewSource(153))
	for n := range 200 {
		s := string(rune('t' + r.Intn(4)))
		if logs[s] == nil || r.Intn(9) == 0 {
			x, e := table.Open(d, s)
			must(t, e)
			logs[s] = opened(t, x, want[s]...)
		}
		p := fmt.Sprint("entry ", n)
		must(t, logs[s].Add([]byte(p), set("other", p)))
		want[s] = append(want[s], p)
		has(t, logs[s], want[s]...)
	}
}

// spoil overwrites bytes, also those behind their length.
func spoil(b []byte) {
	b = b[:cap(b)]
	for i := range b {
		b[i] = '?'
	}
}

func TestLogKeepsNothing(t *testing.T) { // R3
	d, x, l := fresh(t, 1000)
	p, k := []byte("entry and more"), []byte("key")
	room := []table.Change{{Key: unsafe.String(&k[0], 3), Value: p[6:9]}, gone("b"), gone("c")}
	must(t, l.Add(p[:5], room[:1]...))
	if string(p) != "entry and more" || room[0].Key != "key" || string(room[0].Value) != "and" || room[1].Key != "b" || room[2].Key != "c" || !room[1].Gone {
		t.Errorf("the arguments are changed: %q, %v", p, room)
	}
	spoil(p)
	spoil(k)
	room[0], room[1] = set("x", "y"), set("z", "z")
	for range 2 {
		has(t, l, "entry")
		if v, ok := x.Get("key"); string(v) != "and" || !ok {
			t.Errorf("Get: %q, %v", v, ok)
		}
		got, _ := l.Entry(0)
		spoil(got)
	}
	for range 4 {
		must(t, l.Add([]byte("more")))
	}
	for _, ask := range []func() ([]api.Digest, api.Errno){
		func() ([]api.Digest, api.Errno) { return l.Path(1, 5) },
		func() ([]api.Digest, api.Errno) { return l.Proof(3, 5) },
	} {
		first, _ := ask()
		want := slices.Clone(first)
		first = first[:cap(first)]
		clear(first)
		if again, e := ask(); !slices.Equal(again, want) || len(want) == 0 || e != api.OK {
			t.Errorf("%x, %d, not %x", again, e, want)
		}
	}
	proves(t, l, "entry", "more", "more", "more", "more")
	opened(t, stored(t, d), "entry", "more", "more", "more", "more")
}

func TestAsking(t *testing.T) { // R5: it needs no disk, and changes nothing
	d, x, l := fresh(t, 1<<20)
	all := entries(12)
	for _, p := range all {
		must(t, l.Add([]byte(p)))
	}
	must(t, d.Fuse(0))
	d.Sync()
	before := shown(x)
	for range 2 {
		proves(t, l, all...)
		proves(t, opened(t, x, all...), all...)
	}
	if !maps.Equal(shown(x), before) || d.Loose() != 0 {
		t.Error("the table is changed")
	}
}
