package table_test

import (
	"fmt"
	"maps"
	"math/rand"
	"testing"

	"hallmark/api"
	"hallmark/disk"
	"hallmark/table"
)

// act is one call on a table.
type act struct {
	what    string
	changes []table.Change
}

func applies(l ...table.Change) act { return act{"apply", l} }
func folds() act                    { return act{what: "fold"} }
func reopens() act                  { return act{what: "open"} }
func (a act) String() string        { return fmt.Sprintf("%s %s", a.what, brief(a.changes)) }

// user is somebody who works on a table, and remembers what was acknowledged, and what it would have been with the Apply that was interrupted.
type user struct {
	d         *disk.Disk
	x         *table.Table
	done, may contents
}

// do is what the act answers.
func (u *user) do(a act) (e api.Errno) {
	off := u.d.Down()
	switch a.what {
	case "apply":
		switch e = u.x.Apply(a.changes...); {
		case e == api.OK:
			u.done = after(u.done, a.changes...)
		case e == api.ErrDown && !off:
			u.may = after(u.done, a.changes...)
		}
	case "fold":
		e = u.x.Fold()
	case "open":
		var x *table.Table
		if x, e = table.Open(u.d, "t"); e == api.OK {
			u.x = x
		}
	}
	return e
}

// allows says whether a table that is opened after a crash may have these contents.
func (u *user) allows(c contents) bool {
	return maps.Equal(c, u.done) || u.may != nil && maps.Equal(c, u.may)
}

// interrupted is a user whose power went after n steps of the acts, which begin with making the table.
func interrupted(t *testing.T, acts []act, n int) *user {
	t.Helper()
	u := &user{d: newDisk(t, 300)}
	must(t, u.d.Fuse(n))
	for _, a := range append([]act{reopens()}, acts...) {
		if e := u.do(a); e == api.ErrDown {
			return u
		} else if e != api.OK && e != api.ErrFull {
			t.Fatalf("%v: %d", a, e)
		}
		has(t, u.x, u.done)
	}
	return u
}

func scripts() [][]act {
	return [][]act{
		{},
		{applies(set("a", "1"), set("b", "2")), applies(gone("a"), set("c", "3"), set("b", "")), applies()},
		{applies(set("a", "1")), applies(set("a", "2")), applies(gone("a")), applies(set("a", "3"), set("b", "4"), gone("a"))},
		{applies(set("b", "1"), set("a", "2")), folds(), applies(set("c", "3"), gone("b")), folds(), applies(gone("a"))},
		{applies(set("a", "1")), reopens(), applies(set("b", "2"), gone("a")), reopens(), folds(), reopens(), applies(set("a", "4"))},
		{folds(), applies(set("a", "1"), gone("a")), folds(), folds()},
	}
}

// found are the contents of the table in the file t.
func found(t *testing.T, d *disk.Disk) contents {
	t.Helper()
	x, e := table.Open(d, "t")
	if x == nil || e != api.OK {
		t.Fatalf("Open: %v, %d", x, e)
	}
	return shown(t, x)
}

func TestCrash(t *testing.T) { // P11.4: wherever the power goes, whatever survives
	for _, acts := range scripts() {
		for n := range 32 {
			loose := interrupted(t, acts, n).d.Loose()
			for keep := range loose + 2 {
				for _, part := range []int{0, 1, 4, 7, 8, 9, 10, 13, 99} {
					u := interrupted(t, acts, n)
					must(t, u.d.Crash(keep, part))
					c := found(t, u.d)
					if !u.allows(c) {
						t.Fatalf("%v, %d steps, Crash(%d, %d): %q, not %q or %q", acts, n, keep, part, c, u.done, u.may)
					}
					x := opened(t, u.d, c)
					must(t, x.Apply(set("new", "n")))
					must(t, u.d.Crash(0, 0))
					opened(t, u.d, after(c, set("new", "n")))
				}
			}
		}
	}
}

func TestBothComeAbout(t *testing.T) { // P11.4: an Apply that was interrupted is there whole, or not at all
	acts := []act{applies(set("a", "1")), applies(gone("a"), set("b", "2"))}
	for _, keep := range []int{0, 1} {
		u := interrupted(t, acts, 5)
		if u.d.Loose() != 1 {
			t.Fatalf("%d loose", u.d.Loose())
		}
		must(t, u.d.Crash(keep, 15))
		opened(t, u.d, []contents{{"a": "1"}, {"b": "2"}}[keep])
	}
	for part := range 30 {
		u := interrupted(t, acts, 5)
		must(t, u.d.Crash(0, part))
		whole := 8 + len(record(acts[1].changes...))
		opened(t, u.d, map[bool]contents{false: {"a": "1"}, true: {"b": "2"}}[part >= whole])
	}
}

func TestCrashWithinOpen(t *testing.T) { // P11.4
	for _, acts := range scripts() {
		for n := range 24 {
			loose := interrupted(t, acts, n).d.Loose()
			for keep := range loose + 1 {
				for _, part := range []int{0, 7, 9, 12} {
					for m := range 7 {
						for _, again := range [][2]int{{0, 0}, {0, 9}, {1, 9}, {2, 0}, {9, 9}} {
							u := interrupted(t, acts, n)
							must(t, u.d.Crash(keep, part))
							must(t, u.d.Fuse(m))
							if x, e := table.Open(u.d, "t"); (x == nil) != (e != api.OK) || e != api.OK && e != api.ErrDown {
								t.Fatalf("Open: %v, %d", x, e)
							}
							must(t, u.d.Crash(again[0], again[1]))
							if c := found(t, u.d); !u.allows(c) {
								t.Fatalf("%v, %d steps, Crash(%d, %d), %d steps more, Crash%d: %q, not %q or %q", acts, n, keep, part, m, again, c, u.done, u.may)
							}
						}
					}
				}
			}
		}
	}
}

// randomAct is any act.
func randomAct(r *rand.Rand) act {
	switch r.Intn(12) {
	case 0:
		return reopens()
	case 1, 2:
		return folds()
	}
	return applies(randomChanges(r)...)
}

func TestRandom(t *testing.T) { // P11.2, P11.3, P11.4
	r := rand.New(rand.NewSource(113))
	for range 300 {
		u := &user{d: newDisk(t, 150+r.Intn(300))}
		must(t, u.do(reopens()))
		for range 40 {
			must(t, u.d.Fuse(r.Intn(40)))
			for e := api.OK; e != api.ErrDown; {
				a := randomAct(r)
				if e = u.do(a); e == api.ErrFull {
					e = u.do(folds())
				}
				if e != api.OK && e != api.ErrDown && e != api.ErrFull {
					t.Fatalf("%v: %d", a, e)
				}
				// Where there is no room to fold, either, few steps are left to do.
				if e == api.ErrFull {
					must(t, u.d.Fuse(0))
				}
				has(t, u.x, u.done)
			}
			must(t, u.d.Crash(r.Intn(7)-1, r.Intn(30)-1))
			x, e := table.Open(u.d, "t")
			if e == api.ErrFull {
				break
			}
			must(t, e)
			c := shown(t, x)
			if !u.allows(c) {
				t.Fatalf("%q, not %q or %q", c, u.done, u.may)
			}
			u.x, u.done, u.may = x, c, nil
		}
	}
}
