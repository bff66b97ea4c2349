package table_test

import (
	"maps"
	"math"
	"math/rand"
	"slices"
	"strconv"
	"strings"
	"testing"
	"unsafe"

	"hallmark/api"
	"hallmark/disk"
	"hallmark/journal"
	"hallmark/table"
)

// down is a disk whose power is off.
func down(t *testing.T) *disk.Disk {
	d := newDisk(t, 1000)
	d.Fuse(0)
	d.Sync()
	return d
}

func TestExample(t *testing.T) { // P11.2
	d := newDisk(t, 1000)
	x := opened(t, d, nil)
	must(t, x.Apply(set("a", "1"), set("b", "2")))
	if l := x.Keys("", "", 9); !slices.Equal(l, []string{"a", "b"}) {
		t.Errorf("Keys: %q", l)
	}
	if l := x.Keys("", "a", 9); !slices.Equal(l, []string{"b"}) {
		t.Errorf("Keys: %q", l)
	}
	must(t, x.Apply(gone("a")))
	if v, ok := x.Get("a"); ok || len(v) != 0 {
		t.Errorf("Get: %q, %v", v, ok)
	}
	if v, ok := x.Get("b"); !ok || string(v) != "2" || x.Len() != 1 {
		t.Errorf("Get: %q, %v; Len = %d", v, ok, x.Len())
	}
}

func TestOpenIsThatOfTheJournal(t *testing.T) { // P11.2: its steps, where there is no file, where it is sound, and where it is torn
	good := slices.Concat(journal.Frame(record(set("a", "1"))), journal.Frame(record(gone("a"), set("b", "2"))))
	begin := func(b []byte) func() *disk.Disk {
		return func() *disk.Disk {
			d := newDisk(t, 1000)
			must(t, d.Create("t+"))
			if b != nil {
				must(t, d.Create("t"))
				must(t, d.Append("t", b))
			}
			must(t, d.Sync())
			return d
		}
	}
	open := func(d *disk.Disk) api.Errno {
		x, e := table.Open(d, "t")
		if (x == nil) != (e != api.OK) {
			t.Errorf("Open: %v, %d", x, e)
		}
		return e
	}
	plain := func(d *disk.Disk) api.Errno {
		_, _, e := journal.Open(d, "t")
		return e
	}
	for _, b := range [][]byte{nil, {}, good, append(slices.Clip(good), "torn"...), good[:len(good)-1], []byte("torn")} {
		alike(t, begin(b), open, plain)
	}
	opened(t, begin(nil)(), nil)
	opened(t, begin(good)(), contents{"b": "2"})
	opened(t, begin(append(slices.Clip(good), "torn"...))(), contents{"b": "2"})
	opened(t, begin(good[:len(good)-1])(), contents{"a": "1"})
}

func TestOpenReads(t *testing.T) { // P11.2: the changes of all records in order
	for _, x := range []struct {
		recs [][]byte
		want contents
	}{
		{nil, nil},
		{[][]byte{record()}, nil},
		{[][]byte{record(set("a", "1")), record(set("a", "2"))}, contents{"a": "2"}},
		{[][]byte{record(set("a", "1"), set("a", "2"), set("b", "")), record(), record(gone("a"), gone("c")), record(set("c", "3"))}, contents{"b": "", "c": "3"}},
		{[][]byte{record(gone("a"), set("a", "1"))}, contents{"a": "1"}},
		{[][]byte{record(set("a", "1"), gone("a"))}, nil},
	} {
		d := newDisk(t, 1000)
		stored(t, d, x.recs...)
		must(t, d.Fuse(0))
		y := opened(t, d, x.want)
		must(t, d.Fuse(-1))
		records(t, y, d, x.recs...)
	}
}

func TestOpenErrors(t *testing.T) { // P11.2
	long := strings.Repeat("n", 160)
	full := newDisk(t, 1000)
	for i := range 4096 {
		must(t, full.Create("f"+strconv.Itoa(i)))
	}
	for _, x := range []struct {
		d    *disk.Disk
		name string
		want api.Errno
	}{
		{nil, "t", api.ErrNil}, {nil, "", api.ErrNil}, {down(t), "t", api.ErrDown}, {down(t), "", api.ErrArg}, {full, "t", api.ErrFull},
		{newDisk(t, 9), "", api.ErrArg}, {newDisk(t, 9), long, api.ErrArg}, {newDisk(t, 9), long + "n", api.ErrArg},
	} {
		if y, e := table.Open(x.d, x.name); y != nil || e != x.want {
			t.Errorf("Open(%.200q): %v, %d, not %d", x.name, y, e, x.want)
		}
	}
	if y, e := table.Open(newDisk(t, 9), long[1:]); y == nil || e != api.OK {
		t.Errorf("Open: %v, %d", y, e)
	}
}

func TestOpenOfWhatIsNoTable(t *testing.T) { // P11.2: wherever the record stands
	good := [][]byte{record(set("a", "1")), record(gone("a"), set("b", "2")), record()}
	for _, bad := range []string{"", "\x01", "\x00\x00", "\x01\x02\x01a", "\x01\x01\x01a", "\x01\x00\x00", "\x80\x00", string(good[0][:5]), string(good[1]) + "\x00"} {
		for i := range len(good) + 1 {
			d := newDisk(t, 1000)
			stored(t, d, slices.Insert(slices.Clone(good), i, []byte(bad))...)
			before := held(t, d)
			if x, e := table.Open(d, "t"); x != nil || e != api.ErrBroken {
				t.Errorf("Open with %q at %d: %v, %d", bad, i, x, e)
			}
			if !maps.Equal(held(t, d), before) || d.Loose() != 0 {
				t.Errorf("Open with %q at %d changes the disk", bad, i)
			}
		}
	}
	many := newDisk(t, 1<<20)
	stored(t, many, record(slices.Repeat([]table.Change{set("k", "v")}, 257)...))
	if x, e := table.Open(many, "t"); x != nil || e != api.ErrBroken {
		t.Errorf("Open: %v, %d", x, e)
	}
	stored(t, many)
	// Where the power goes while the torn end is mended, that is told.
	torn := newDisk(t, 1000)
	stored(t, torn, []byte("no record"))
	must(t, torn.Append("t", []byte("torn")))
	must(t, torn.Fuse(3))
	if x, e := table.Open(torn, "t"); x != nil || e != api.ErrDown {
		t.Errorf("Open: %v, %d", x, e)
	}
}

func TestApply(t *testing.T) { // P11.2: what is seen now, and what is in the journal
	d := newDisk(t, 1<<20)
	x := opened(t, d, nil)
	want, recs := contents{}, [][]byte{}
	for _, l := range [][]table.Change{
		{set("a", "1"), set("b", "2")},
		{},
		{gone("a"), gone("missing")},
		{set("b", "22"), set("b", "222"), gone("c"), set("c", "3")},
		{set("d", "4"), gone("d")},
		{{Key: "c", Gone: true, Value: []byte("not looked at")}},
		{set("b", ""), {Key: "e"}},
		{set("\x00", "\xff"), set("\xff", "\x00"), set(strings.Repeat("k", mostKey), "long")},
		slices.Repeat([]table.Change{set("many", "m")}, 256),
		{gone("b"), gone("b")},
	} {
		must(t, x.Apply(l...))
		want, recs = after(want, l...), append(recs, record(l...))
		has(t, x, want)
		records(t, x, d, recs...)
		opened(t, d, want)
	}
}

func TestApplyOfLongRecords(t *testing.T) { // P11.2: as long as a record may be
	d := newDisk(t, 4<<20)
	x := opened(t, d, nil)
	l := filling(0)
	must(t, x.Apply(l...))
	has(t, x, after(nil, l...))
	records(t, x, d, record(l...))
	if e := x.Apply(filling(1)...); e != api.ErrLimit {
		t.Errorf("Apply: %d", e)
	}
	records(t, x, d, record(l...))
	opened(t, d, after(nil, l...))
}

func TestApplySteps(t *testing.T) { // P11.2: an Append and a Sync
	begin := func() *disk.Disk {
		d := newDisk(t, 1000)
		stored(t, d, record(set("a", "1")))
		return d
	}
	for _, l := range [][]table.Change{nil, {set("b", "2")}, {gone("a"), set("b", "2"), set("c", "3")}} {
		alike(t, begin, func(d *disk.Disk) api.Errno {
			return opened(t, d, contents{"a": "1"}).Apply(l...)
		}, func(d *disk.Disk) api.Errno {
			j, _, e := journal.Open(d, "t")
			must(t, e)
			if e := j.Append(record(l...)); e != api.OK {
				return e
			}
			return j.Sync()
		})
	}
}

func TestApplyErrors(t *testing.T) { // P11.2: nothing is changed
	long := strings.Repeat("x", mostValue+1)
	for _, x := range []struct {
		l    []table.Change
		want api.Errno
	}{
		{[]table.Change{set("", "1")}, api.ErrArg},
		{[]table.Change{set("b", "2"), gone("")}, api.ErrArg},
		{[]table.Change{gone("a"), set(long[:mostKey+1], "")}, api.ErrArg},
		{[]table.Change{set("a", "2"), set("b", long)}, api.ErrArg},
		{[]table.Change{{Key: "a", Gone: true, Value: []byte(long)}}, api.ErrArg},
		{slices.Repeat([]table.Change{gone("a")}, 257), api.ErrLimit},
		{filling(1), api.ErrLimit},
		{[]table.Change{set("b", strings.Repeat("v", 200))}, api.ErrFull},
		{[]table.Change{gone("a"), set("b", "2"), gone(strings.Repeat("k", 100))}, api.ErrFull},
	} {
		d := newDisk(t, 100)
		y := opened(t, d, nil)
		must(t, y.Apply(set("a", "1")))
		if e := y.Apply(x.l...); e != x.want {
			t.Errorf("Apply of %s: %d, not %d", brief(x.l), e, x.want)
		}
		has(t, y, contents{"a": "1"})
		records(t, y, d, record(set("a", "1")))
		must(t, y.Apply(set("b", "3")))
		records(t, y, d, record(set("a", "1")), record(set("b", "3")))
		opened(t, d, contents{"a": "1", "b": "3"})
	}
}

func TestApplyOnFullDisk(t *testing.T) { // P11.2: to the last byte
	want := record(set("b", "2"))
	for room := range 8 + len(want) + 3 {
		d := newDisk(t, room)
		x := opened(t, d, nil)
		if room < 8+len(want) {
			if e := x.Apply(set("b", "2")); e != api.ErrFull {
				t.Errorf("Apply: %d", e)
			}
			has(t, x, nil)
			records(t, x, d)
			opened(t, d, nil)
			continue
		}
		must(t, x.Apply(set("b", "2")))
		records(t, x, d, want)
	}
}

func TestApplyWithoutFile(t *testing.T) { // P11.2: the errors of the journal
	d := newDisk(t, 1000)
	x := opened(t, d, nil)
	must(t, x.Apply(set("a", "1")))
	must(t, d.Rename("t", "away"))
	if e := x.Apply(gone("a")); e != api.ErrNone {
		t.Errorf("Apply: %d", e)
	}
	has(t, x, contents{"a": "1"})
	must(t, d.Rename("away", "t"))
	must(t, x.Apply(set("b", "2")))
	opened(t, d, contents{"a": "1", "b": "2"})
}

// refuses reports it unless the table tells nothing but that the power went, ahead of all that is wrong with changes, and shows what it did.
func refuses(t *testing.T, x *table.Table, d *disk.Disk, want contents) {
	t.Helper()
	loose, used := d.Loose(), d.Used()
	for range 2 {
		for _, l := range [][]table.Change{nil, {set("z", "26")}, {gone("")}, slices.Repeat([]table.Change{gone("a")}, 257)} {
			if e := x.Apply(l...); e != api.ErrDown {
				t.Errorf("Apply: %d", e)
			}
		}
		if e := x.Fold(); e != api.ErrDown {
			t.Errorf("Fold: %d", e)
		}
	}
	if d.Loose() != loose || d.Used() != used {
		t.Errorf("%d loose, %d bytes, not %d, %d", d.Loose(), d.Used(), loose, used)
	}
	has(t, x, want)
}

func TestDownStays(t *testing.T) { // P11.2, P11.3: also once the power is on again
	for _, call := range []func(x *table.Table) api.Errno{
		func(x *table.Table) api.Errno { return x.Apply(set("a", "2")) },
		func(x *table.Table) api.Errno { return x.Apply() },
		(*table.Table).Fold,
	} {
		steps := 0
		for staysDown(t, call, steps, false) {
			staysDown(t, call, steps, true)
			steps++
		}
		if steps < 2 {
			t.Errorf("%d steps", steps)
		}
	}
}

// staysDown says whether so few steps interrupt the call; then it reports it unless the table is down from then on, be it asked while the power is off or not.
func staysDown(t *testing.T, call func(x *table.Table) api.Errno, steps int, asked bool) bool {
	t.Helper()
	d := newDisk(t, 1000)
	x := opened(t, d, nil)
	want := contents{"a": "1", "b": "2"}
	must(t, x.Apply(set("a", "1"), set("b", "2")))
	must(t, d.Fuse(steps))
	e := call(x)
	if e == api.OK {
		return false
	}
	if e != api.ErrDown {
		t.Fatalf("%d steps: %d", steps, e)
	}
	if asked {
		refuses(t, x, d, want)
	}
	must(t, d.Crash(99, 0))
	refuses(t, x, d, want)
	// A table that is opened again is not concerned, and doesn't change the one that is down.
	y, e := table.Open(d, "t")
	must(t, e)
	must(t, y.Apply(set("c", "3")))
	must(t, y.Fold())
	refuses(t, x, d, want)
	return true
}

func TestDownUnnoticed(t *testing.T) { // P11.2: it is told of the journal's steps, behind what is wrong with changes
	d := newDisk(t, 1000)
	x := opened(t, d, nil)
	must(t, x.Apply(set("a", "1")))
	must(t, d.Fuse(0))
	d.Sync()
	if e := x.Apply(set("", "")); e != api.ErrArg {
		t.Errorf("Apply: %d", e)
	}
	if e := x.Apply(slices.Repeat([]table.Change{gone("a")}, 257)...); e != api.ErrLimit {
		t.Errorf("Apply: %d", e)
	}
	has(t, x, contents{"a": "1"})
	// The power went and came while nothing was asked of the table: it goes on.
	must(t, d.Crash(0, 0))
	must(t, x.Apply(set("b", "2")))
	must(t, x.Fold())
	opened(t, d, contents{"a": "1", "b": "2"})
	must(t, d.Fuse(0))
	d.Sync()
	if e := x.Apply(); e != api.ErrDown {
		t.Errorf("Apply: %d", e)
	}
	must(t, d.Crash(0, 0))
	refuses(t, x, d, contents{"a": "1", "b": "2"})
}

func TestGet(t *testing.T) { // P11.2
	d := newDisk(t, 1<<20)
	x := opened(t, d, nil)
	must(t, x.Apply(set("a", ""), set("ab", "1"), set("\x00", "2"), set(strings.Repeat("k", mostKey), strings.Repeat("v", mostValue)), gone("c"), set("d", "3"), gone("d")))
	for _, y := range []*table.Table{x, opened(t, d, shown(t, x))} {
		for key, want := range map[string]string{"a": "", "ab": "1", "\x00": "2", strings.Repeat("k", mostKey): strings.Repeat("v", mostValue)} {
			if v, ok := y.Get(key); string(v) != want || !ok {
				t.Errorf("Get(%.20q): %.20q, %v", key, v, ok)
			}
		}
		for _, key := range []string{"", "b", "c", "d", "abc", "A", "\x00\x00", strings.Repeat("k", mostKey-1), strings.Repeat("k", mostKey+1)} {
			if v, ok := y.Get(key); len(v) != 0 || ok {
				t.Errorf("Get(%.20q): %.20q, %v", key, v, ok)
			}
		}
	}
}

func TestKeys(t *testing.T) { // P11.2: all heads and beginnings of short texts
	all := []string{""}
	for at := 0; len(all) < 40; at++ {
		for _, c := range []string{"\x00", "a", "\xff"} {
			all = append(all, all[at]+c)
		}
	}
	r := rand.New(rand.NewSource(111))
	for range 20 {
		d := newDisk(t, 1<<20)
		x := opened(t, d, nil)
		c := contents{}
		for _, k := range all[1:] {
			if r.Intn(3) > 0 {
				must(t, x.Apply(set(k, "v")))
				c[k] = "v"
			}
		}
		for _, head := range all {
			for _, after := range all {
				for _, most := range []int{math.MinInt, -1, 0, 1, 2, 7, math.MaxInt} {
					if got, want := x.Keys(head, after, most), c.keys(head, after, most); !slices.Equal(got, want) {
						t.Fatalf("Keys(%q, %q, %d): %q, not %q", head, after, most, got, want)
					}
				}
			}
		}
		if got := x.Keys("", "", len(c)); len(got) != len(c) {
			t.Errorf("Keys: %d, not %d", len(got), len(c))
		}
		long := strings.Repeat("a", 1000)
		if got := x.Keys(long, "", 9); len(got) != 0 {
			t.Errorf("Keys: %q", got)
		}
		if got, want := x.Keys("", long, 9), c.keys("", long, 9); !slices.Equal(got, want) {
			t.Errorf("Keys: %q, not %q", got, want)
		}
	}
}

func TestKeysPieceByPiece(t *testing.T) { // P11.2: each key comes once
	d := newDisk(t, 1<<20)
	x := opened(t, d, nil)
	var want []string
	for i := range 100 {
		must(t, x.Apply(set("k/"+strconv.Itoa(i), ""), set("other"+strconv.Itoa(i), "")))
		want = append(want, "k/"+strconv.Itoa(i))
	}
	slices.Sort(want)
	for most := 1; most < 102; most += 10 {
		var got []string
		for after := ""; ; after = got[len(got)-1] {
			l := x.Keys("k/", after, most)
			if len(l) == 0 {
				break
			}
			got = append(got, l...)
		}
		if !slices.Equal(got, want) {
			t.Errorf("%d at a time: %q", most, got)
		}
	}
}

func TestNilTable(t *testing.T) { // R1, P11.2
	var x *table.Table
	for _, l := range [][]table.Change{nil, {set("a", "1")}, {gone("")}, slices.Repeat([]table.Change{gone("a")}, 257)} {
		if e := x.Apply(l...); e != api.ErrNil {
			t.Errorf("Apply: %d", e)
		}
	}
	if e := x.Fold(); e != api.ErrNil {
		t.Errorf("Fold: %d", e)
	}
	if v, ok := x.Get("a"); len(v) != 0 || ok {
		t.Errorf("Get: %q, %v", v, ok)
	}
	if l := x.Keys("", "", 9); len(l) != 0 || x.Len() != 0 || x.Size() != 0 {
		t.Errorf("Keys: %q, Len = %d, Size = %d", l, x.Len(), x.Size())
	}
}

func TestZeroTablePanicsNowhere(t *testing.T) { // R1
	x := new(table.Table)
	x.Apply(set("a", "1"))
	x.Apply(gone("a"))
	x.Apply()
	x.Get("a")
	x.Keys("", "", 9)
	x.Len()
	x.Size()
	x.Fold()
	table.Open(new(disk.Disk), "t")
}

func TestFold(t *testing.T) { // P11.3
	long := strings.Repeat("k", mostKey)
	for _, l := range [][]table.Change{
		nil,
		{set("a", "1")},
		{set("a", "1"), gone("a")},
		{set("b", "2"), set("a", "1"), set("c", ""), gone("missing"), set("b", "22"), gone("c"), set("ab", "3"), set("\xff", "4"), set("\x00", "5")},
		{set(long, strings.Repeat("v", mostValue)), set("z", ""), set("a", strings.Repeat("w", mostValue))},
	} {
		d := newDisk(t, 4<<20)
		x := opened(t, d, nil)
		for _, c := range l {
			must(t, x.Apply(c))
		}
		want := after(nil, l...)
		var recs [][]byte
		for _, k := range want.keys("", "", math.MaxInt) {
			recs = append(recs, record(set(k, want[k])))
		}
		for range 2 {
			must(t, x.Fold())
			has(t, x, want)
			records(t, x, d, recs...)
			opened(t, d, want)
		}
		must(t, x.Apply(set("new", "n"), gone("a")))
		records(t, x, d, append(recs, record(set("new", "n"), gone("a")))...)
		opened(t, d, after(want, set("new", "n"), gone("a")))
	}
}

func TestFoldSteps(t *testing.T) { // P11.3: those of the journal, also where there is no room for them
	for _, l := range [][]table.Change{nil, {set("a", "1"), gone("a")}, {set("a", "1")}, {set("b", "2"), set("a", "1"), set("b", "3"), set("c", "")}} {
		var recs [][]byte
		for _, c := range l {
			recs = append(recs, record(c))
		}
		for _, spare := range []int{1000, 47, 30, 14, 13, 0} {
			begin := func() *disk.Disk {
				d := newDisk(t, frames(recs)+spare)
				stored(t, d, recs...)
				return d
			}
			alike(t, begin, func(d *disk.Disk) api.Errno {
				return opened(t, d, after(nil, l...)).Fold()
			}, func(d *disk.Disk) api.Errno {
				j, _, e := journal.Open(d, "t")
				must(t, e)
				return j.Rewrite(folded(after(nil, l...)))
			})
		}
	}
}

// folded are the records to which a table with these contents is folded.
func folded(c contents) [][]byte {
	var recs [][]byte
	for _, k := range c.keys("", "", math.MaxInt) {
		recs = append(recs, record(set(k, c[k])))
	}
	return recs
}

// frames is how many bytes a journal has with these records.
func frames(recs [][]byte) int {
	n := 0
	for _, p := range recs {
		n += len(journal.Frame(p))
	}
	return n
}

func TestFoldOnFullDisk(t *testing.T) { // P11.3: the table is as it was, and can be worked with
	c := contents{"a": "1", "b": strings.Repeat("v", 30)}
	recs := [][]byte{record(set("b", "2")), record(set("a", "1"), set("b", strings.Repeat("v", 30))), record(gone("c"))}
	used, spare := frames(recs), frames(folded(c))
	for room := used; room < used+spare+9; room++ {
		d := newDisk(t, room)
		stored(t, d, recs...)
		x := opened(t, d, c)
		want, full := folded(c), room < used+spare
		e := x.Fold()
		if full != (e == api.ErrFull) || !full && e != api.OK {
			t.Fatalf("Fold: %d; %d bytes of %d, %d", e, used, room, spare)
		}
		if full {
			want = recs
			must(t, d.Sync())
		}
		has(t, x, c)
		records(t, x, d, want...)
		if l := held(t, d); len(l) != 1 {
			t.Errorf("%d files", len(l))
		}
		opened(t, d, c)
		l := [][]byte{record(gone("b"))}
		if full && room < used+frames(l) {
			continue
		}
		must(t, x.Apply(gone("b")))
		records(t, x, d, append(want, l...)...)
	}
}

func TestTablesAreApart(t *testing.T) { // R5: several on one disk
	r := rand.New(rand.NewSource(112))
	d := newDisk(t, 1<<20)
	names := []string{"t", "u", "t2", "+"}
	want := map[string]contents{}
	tables := map[string]*table.Table{}
	for range 1500 {
		s := names[r.Intn(len(names))]
		switch {
		case tables[s] == nil || r.Intn(9) == 0:
			x, e := table.Open(d, s)
			must(t, e)
			tables[s] = x
		case r.Intn(9) == 0:
			must(t, tables[s].Fold())
		default:
			l := randomChanges(r)
			must(t, tables[s].Apply(l...))
			want[s] = after(want[s], l...)
		}
		has(t, tables[s], want[s])
	}
}

// randomChanges are any changes of few keys.
func randomChanges(r *rand.Rand) []table.Change {
	var l []table.Change
	for range r.Intn(5) {
		key := string(rune('a' + r.Intn(6)))
		if r.Intn(3) == 0 {
			l = append(l, gone(key))
		} else {
			l = append(l, set(key, randomText(r, 9)))
		}
	}
	return l
}

func TestTableKeepsNothing(t *testing.T) { // R3
	d := newDisk(t, 1000)
	name, key, value := []byte("t"), []byte("abc"), []byte("value and more")
	x, e := table.Open(d, unsafe.String(&name[0], 1))
	must(t, e)
	name[0] = '?'
	l := []table.Change{{Key: unsafe.String(&key[0], 3), Value: value[:5]}, gone("other"), {Key: "b", Gone: true, Value: value[6:9]}}
	must(t, x.Apply(l[:2]...))
	if l[0].Key != "abc" || l[1].Key != "other" || !l[2].Gone || string(value) != "value and more" {
		t.Errorf("the argument is changed: %s", brief(l))
	}
	key[0] = '?'
	spoil(value)
	l[0], l[1] = set("x", "y"), set("z", "z")
	want := contents{"abc": "value"}
	has(t, x, want)
	opened(t, d, want)
	must(t, x.Apply(set("b", "2")))
	opened(t, d, contents{"abc": "value", "b": "2"})
	for _, y := range []*table.Table{x, opened(t, d, shown(t, x))} {
		v, _ := y.Get("abc")
		w, _ := y.Get("abc")
		spoil(v)
		if string(w) != "value" {
			t.Errorf("Get: %q", w)
		}
		keys := y.Keys("", "", 1)
		all := y.Keys("", "", 9)
		keys = keys[:cap(keys)]
		for i := range keys {
			keys[i] = "x"
		}
		again := y.Keys("", "", 9)
		if !slices.Equal(all, []string{"abc", "b"}) || unsafe.StringData(all[0]) == unsafe.StringData(again[0]) {
			t.Errorf("Keys: %q, %q", all, again)
		}
		has(t, y, contents{"abc": "value", "b": "2"})
	}
	must(t, x.Fold())
	has(t, x, contents{"abc": "value", "b": "2"})
	opened(t, d, contents{"abc": "value", "b": "2"})
}
