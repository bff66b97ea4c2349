package taglog_test

import (
	"fmt"
	"maps"
	"math/rand"
	"slices"
	"testing"

	"hallmark/api"
	"hallmark/disk"
	"hallmark/merkle"
	"hallmark/table"
	"hallmark/taglog"
)

// act is one call on a log, or on its table.
type act struct {
	what    string
	entry   string
	changes []table.Change
}

func adds(p string, more ...table.Change) act { return act{"add", p, more} }
func applies(l ...table.Change) act           { return act{what: "apply", changes: l} }
func folds() act                              { return act{what: "fold"} }
func reopens() act                            { return act{what: "open"} }

// state is what a log and its table have.
type state struct {
	entries []string
	others  contents
}

// after is the state behind an act that was done.
func (s state) after(a act) state {
	if a.what == "add" {
		s.entries = append(slices.Clip(s.entries), a.entry)
	}
	s.others = after(s.others, a.changes...)
	return s
}

func (s state) equal(x state) bool {
	return slices.Equal(s.entries, x.entries) && maps.Equal(s.others, x.others)
}

// user is somebody who works on a log, and remembers its roots, what was acknowledged, and what it would have been with the act that was interrupted.
type user struct {
	d         *disk.Disk
	x         *table.Table
	l         *taglog.Log
	done, may state
	// roots are those that were told behind each Add that was answered with OK, by the number of entries.
	roots map[int]api.Digest
}

func newUser(t *testing.T, room int) *user {
	t.Helper()
	u := &user{d: newDisk(t, room), roots: map[int]api.Digest{}}
	u.done.others = contents{}
	u.may = u.done
	return u
}

// do is what the act answers.
func (u *user) do(a act) (e api.Errno) {
	off := u.d.Down()
	switch a.what {
	case "add":
		e = u.l.Add([]byte(a.entry), a.changes...)
	case "apply":
		e = u.x.Apply(a.changes...)
	case "fold":
		e = u.x.Fold()
	case "open":
		e = u.open()
	}
	switch {
	case e == api.OK:
		u.done = u.done.after(a)
		u.may = u.done
	case e == api.ErrDown && !off:
		u.may = u.done.after(a)
	}
	if e == api.OK && a.what == "add" {
		n := len(u.done.entries)
		u.roots[n], e = u.l.Root(n)
	}
	return e
}

// open is the opening of the table and the log.
func (u *user) open() api.Errno {
	x, e := table.Open(u.d, "t")
	if e != api.OK {
		return e
	}
	l, e := taglog.Open(x)
	if e == api.OK {
		u.x, u.l = x, l
	}
	return e
}

// shows is what the user's log and table show.
func (u *user) shows(t *testing.T) state {
	t.Helper()
	s := state{others: shown(u.x)}
	for i := range u.l.Size() {
		p, e := u.l.Entry(i)
		must(t, e)
		s.entries = append(s.entries, string(p))
		delete(s.others, key(i))
	}
	return s
}

// checks reports it unless the log has what was acknowledged, with or without what was interrupted, and extends all that was told of it.
func (u *user) checks(t *testing.T, about ...any) {
	t.Helper()
	s := u.shows(t)
	if !s.equal(u.done) && !s.equal(u.may) {
		t.Fatalf("%v: %q, not %q or %q", about, s, u.done, u.may)
	}
	has(t, u.l, s.entries...)
	n := len(s.entries)
	top, e := u.l.Root(n)
	must(t, e)
	for m, old := range u.roots {
		if now, e := u.l.Root(m); now != old || e != api.OK {
			t.Fatalf("%v: Root(%d) = %x, %d, and was %x", about, m, now, e, old)
		}
		if way, e := u.l.Proof(m, n); !merkle.Extends(old, m, top, n, way) || e != api.OK {
			t.Fatalf("%v: Proof(%d, %d) = %x, %d", about, m, n, way, e)
		}
	}
	u.done, u.may = s, s
}

// interrupted is a user whose power went after n steps of the acts, which begin with making the table.
func interrupted(t *testing.T, acts []act, n int) *user {
	t.Helper()
	u := newUser(t, 400)
	must(t, u.d.Fuse(n))
	for _, a := range append([]act{reopens()}, acts...) {
		e := u.do(a)
		if e == api.ErrDown {
			// The log is as it was, though nobody knows what the disk has.
			if u.l != nil {
				has(t, u.l, u.done.entries...)
			}
			return u
		}
		if e != api.OK && e != api.ErrFull {
			t.Fatalf("%v: %d", a, e)
		}
		has(t, u.l, u.done.entries...)
	}
	return u
}

func scripts() [][]act {
	return [][]act{
		{},
		{adds("a"), adds("b"), adds("c")},
		{adds("a", set("x", "1")), adds("", set("y", "2"), gone("x")), applies(set("z", "3")), adds("c", gone("z"))},
		{adds("a"), folds(), adds("a", set("x", "1")), reopens(), folds(), adds("b")},
		{applies(set("x", "1")), reopens(), adds("a", gone("x")), adds("b", set("x", "2")), reopens(), adds("c"), adds("d", set("x", "3"))},
	}
}

func TestCrash(t *testing.T) { // P15.3: wherever the power goes, whatever survives
	for _, acts := range scripts() {
		for n := range 24 {
			loose := interrupted(t, acts, n).d.Loose()
			for keep := range loose + 2 {
				for _, part := range []int{0, 1, 7, 8, 9, 21, 30, 99} {
					u := interrupted(t, acts, n)
					must(t, u.d.Crash(keep, part))
					must(t, u.open())
					u.checks(t, acts, n, "steps, Crash", keep, part)
					must(t, u.do(adds("new", set("new", "n"))))
					must(t, u.d.Crash(0, 0))
					must(t, u.open())
					u.checks(t, acts, n, "steps, Crash", keep, part, "and an entry more")
				}
			}
		}
	}
}

func TestCrashWithinOpen(t *testing.T) { // P15.3
	for _, acts := range scripts() {
		for n := range 20 {
			loose := interrupted(t, acts, n).d.Loose()
			for keep := range loose + 1 {
				for m := range 6 {
					for _, again := range [][2]int{{0, 0}, {0, 9}, {1, 9}, {9, 9}} {
						u := interrupted(t, acts, n)
						must(t, u.d.Crash(keep, 9))
						must(t, u.d.Fuse(m))
						if e := u.open(); e != api.OK && e != api.ErrDown {
							t.Fatalf("open: %d", e)
						}
						must(t, u.d.Crash(again[0], again[1]))
						must(t, u.open())
						u.checks(t, acts, n, "steps, Crash", keep, "then", m, "steps, Crash", again)
					}
				}
			}
		}
	}
}

func TestBothComeAbout(t *testing.T) { // P15.3: an entry that was interrupted is there with what comes with it, or neither is
	acts := []act{adds("a", set("x", "1")), adds("b", gone("x"), set("y", "2"))}
	for _, keep := range []int{0, 1} {
		// Two steps to make the file, and two for each entry.
		u := interrupted(t, acts, 5)
		if u.d.Loose() != 1 {
			t.Fatalf("%d loose", u.d.Loose())
		}
		must(t, u.d.Crash(keep, 3))
		must(t, u.open())
		want := []state{u.done, u.may}[keep]
		if s := u.shows(t); !s.equal(want) || len(s.entries) != 1+keep {
			t.Errorf("Crash(%d): %q, not %q", keep, s, want)
		}
	}
}

// randomAct is any act.
func randomAct(r *rand.Rand, n int) act {
	var l []table.Change
	for range r.Intn(3) {
		k := string(rune('a' + r.Intn(4)))
		if r.Intn(3) == 0 {
			l = append(l, gone(k))
		} else {
			l = append(l, set(k, fmt.Sprint("value ", n)))
		}
	}
	switch r.Intn(12) {
	case 0:
		return reopens()
	case 1:
		return folds()
	case 2, 3:
		return applies(l...)
	}
	return adds(fmt.Sprint("entry ", n)[:r.Intn(8)], l...)
}

func TestRandom(t *testing.T) { // P15.1, P15.2, P15.3
	r := rand.New(rand.NewSource(155))
	interruptions := 0
	for range 60 {
		u := newUser(t, 300+r.Intn(2000))
		must(t, u.do(reopens()))
		for n := 0; n < 100; n++ {
			if r.Intn(4) == 0 {
				must(t, u.d.Fuse(r.Intn(9)))
			}
			e := u.do(randomAct(r, n))
			if e == api.OK {
				has(t, u.l, u.done.entries...)
				continue
			}
			if e != api.ErrDown && e != api.ErrFull {
				t.Fatalf("error %d", e)
			}
			has(t, u.l, u.done.entries...)
			if e == api.ErrFull {
				continue
			}
			interruptions++
			must(t, u.d.Crash(r.Intn(5)-1, r.Intn(40)-1))
			if e := u.open(); e == api.ErrFull {
				break
			} else {
				must(t, e)
			}
			u.checks(t, n)
		}
	}
	if interruptions < 300 {
		t.Errorf("%d interruptions", interruptions)
	}
}
