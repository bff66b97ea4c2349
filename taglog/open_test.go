package taglog_test

import (
	"maps"
	"math/rand"
	"slices"
	"strings"
	"testing"

	"hallmark/api"
	"hallmark/table"
	"hallmark/taglog"
)

// broken reports it unless there is no log in a table.
func broken(t *testing.T, x *table.Table) {
	t.Helper()
	before := shown(x)
	if l, e := taglog.Open(x); l != nil || e != api.ErrBroken {
		t.Errorf("Open: %v, %d; %.300q", l, e, before)
	}
	if !maps.Equal(shown(x), before) {
		t.Errorf("Open changes the table: %.300q", before)
	}
}

func TestOpenBesideOtherKeys(t *testing.T) { // P15.1: those that begin otherwise are no matter
	d := newDisk(t, 1<<20)
	others := []table.Change{
		set("g", "x"), set("G/00000000", "x"), set("f/00000000", "x"), set("h/", "x"), set("g.00000000", "x"), set("g000000000", "x"),
		set(" g/00000000", "x"), set("\xffg/", "x"), set("/g/00000001", "x"), set("u", "x"), set("u/00000001", "x"),
	}
	l := opened(t, stored(t, d, others...))
	must(t, l.Add([]byte("a")))
	must(t, l.Add([]byte("b")))
	opened(t, stored(t, d), "a", "b")
}

func TestOpenOfWhatIsNoLog(t *testing.T) { // P15.1: a key that begins with g/ and is none of the next entry
	strange := []string{
		"g/", "g/0", "g/0000000", "g/000000000", "g/00000003 ", "g/ 00000003", "g/0000000A", "g/0000000g", "g/-0000001", "g/ffffffff", "g/80000000", "g/00100000",
		"g//00000003", "g/g/00000003", "g/\x00", "g/\xff", "g/0000000" + "\x003", "g/0x000003", "g/" + strings.Repeat("0", 318),
	}
	for n := range 4 {
		var l []table.Change
		for i := range n {
			l = append(l, set(key(i), "entry"))
		}
		opened(t, stored(t, newDisk(t, 1<<20), l...), slices.Repeat([]string{"entry"}, n)...)
		for _, k := range strange {
			broken(t, stored(t, newDisk(t, 1<<20), append(slices.Clip(l), set(k, "x"))...))
		}
		for far := n + 1; far < n+20; far++ {
			broken(t, stored(t, newDisk(t, 1<<20), append(slices.Clip(l), set(key(far), "x"))...))
		}
	}
}

func TestOpenWithGaps(t *testing.T) { // P15.1: wherever an entry is missing
	const n = 20
	d := newDisk(t, 1<<20)
	var all []string
	for i := range n {
		all = append(all, "entry")
		stored(t, d, set(key(i), "entry"))
	}
	x := stored(t, d)
	for i := range n - 1 {
		must(t, x.Apply(gone(key(i))))
		broken(t, x)
		must(t, x.Apply(set(key(i), "entry")))
		opened(t, x, all...)
	}
	must(t, x.Apply(gone(key(n-1))))
	opened(t, x, all[1:]...)
}

func TestOpenRandom(t *testing.T) { // P15.1: any keys
	r := rand.New(rand.NewSource(154))
	logs := 0
	for range 3000 {
		x := stored(t, newDisk(t, 1<<20))
		want := map[int]string{}
		strange := false
		for range r.Intn(6) {
			i := r.Intn(5)
			p := string(rune('a' + r.Intn(26)))
			want[i] = p
			must(t, x.Apply(set(key(i), p)))
			if r.Intn(20) == 0 {
				must(t, x.Apply(set(key(i)[:2+r.Intn(8)], "x")))
				strange = true
			}
		}
		var all []string
		for i := range 5 {
			p, ok := want[i]
			if !ok {
				break
			}
			all = append(all, p)
		}
		if strange || len(all) != len(want) {
			broken(t, x)
			continue
		}
		logs++
		has(t, opened(t, x, all...), all...)
	}
	if logs < 500 || logs > 2500 {
		t.Errorf("%d logs", logs)
	}
}

func TestMostEntries(t *testing.T) { // P15.1: as many as there may be
	d := newDisk(t, api.MaxRoom)
	x := stored(t, d)
	var l []table.Change
	for i := range api.MaxLog {
		l = append(l, table.Change{Key: key(i)})
		if len(l) == table.Most {
			must(t, x.Apply(l...))
			l = l[:0]
		}
	}
	log, e := taglog.Open(x)
	if log == nil || e != api.OK || log.Size() != api.MaxLog {
		t.Fatalf("Open: %v, %d; Size = %d", log, e, log.Size())
	}
	most := func(add []byte, more ...table.Change) {
		t.Helper()
		size := d.Used()
		if e := log.Add(add, more...); e != api.ErrLimit || d.Used() != size || x.Len() != api.MaxLog || log.Size() != api.MaxLog {
			t.Errorf("Add: %d; %d keys, Size = %d", e, x.Len(), log.Size())
		}
	}
	most([]byte("p"))
	most(nil, set("a", "1"))
	// That there are too many is told ahead of what Apply would say.
	most(make([]byte, api.MaxValue+1), set("", "1"))
	last := api.MaxLog - 1
	must(t, x.Apply(gone(key(last))))
	other, e := taglog.Open(x)
	if other.Size() != last || e != api.OK {
		t.Errorf("Open: %d; Size = %d", e, other.Size())
	}
	must(t, log.Add([]byte("last")))
	if e := other.Add(nil); e != api.ErrLimit || other.Size() != api.MaxLog {
		t.Errorf("Add to another log of the table: %d; Size = %d", e, other.Size())
	}
	if p, e := log.Entry(last); string(p) != "last" || e != api.OK || log.Size() != api.MaxLog {
		t.Errorf("Entry(%d) = %q, %d; Size = %d", last, p, e, log.Size())
	}
	if p, e := log.Entry(api.MaxLog); len(p) != 0 || e != api.ErrArg {
		t.Errorf("Entry(%d) = %q, %d", api.MaxLog, p, e)
	}
	all := leaves(append(make([]string, last), "last"))
	if top, e := log.Root(api.MaxLog); top != root(all) || e != api.OK {
		t.Errorf("Root: %x, %d", top, e)
	}
	must(t, x.Apply(set(key(api.MaxLog), "x")))
	if y, e := taglog.Open(x); y != nil || e != api.ErrBroken {
		t.Errorf("Open of one too many: %v, %d", y, e)
	}
	if e := log.Add(nil); e != api.ErrLimit || log.Size() != api.MaxLog {
		t.Errorf("Add: %d; Size = %d", e, log.Size())
	}
	if p, e := log.Entry(api.MaxLog); len(p) != 0 || e != api.ErrArg {
		t.Errorf("Entry(%d) = %q, %d", api.MaxLog, p, e)
	}
	must(t, d.Fuse(0))
	x.Fold()
	if e := log.Add(nil); e != api.ErrLimit {
		t.Errorf("Add without power: %d", e)
	}
}
