package journal_test

import (
	"fmt"
	"math/rand"
	"slices"
	"testing"

	"hallmark/api"
	"hallmark/disk"
	"hallmark/journal"
)

// act is one call on a journal.
type act struct {
	what string
	recs []string
}

func appends(p string) act          { return act{"append", []string{p}} }
func syncs() act                    { return act{what: "sync"} }
func rewritesTo(l ...string) act    { return act{"rewrite", l} }
func reopens() act                  { return act{what: "open"} }
func (a act) String() string        { return fmt.Sprintf("%s %.100q", a.what, a.recs) }
func joined(a, b []string) []string { return append(slices.Clip(a), b...) }

// known is what is known of a journal's records: those of the last Sync, those that were appended since, and those of a Rewrite that was interrupted.
type known struct {
	synced, since, begun []string
	interrupted          bool
}

// allows says whether a journal that is opened after a crash may have these records.
func (k known) allows(recs []string) bool {
	for n := range len(k.since) + 1 {
		if slices.Equal(recs, joined(k.synced, k.since[:n])) {
			return true
		}
	}
	return k.interrupted && slices.Equal(recs, k.begun)
}

// user is somebody who works on a journal, and remembers what was acknowledged.
type user struct {
	d *disk.Disk
	j *journal.Journal
	known
}

// do is what the act answers.
func (u *user) do(a act) (e api.Errno) {
	switch a.what {
	case "append":
		if e = u.j.Append([]byte(a.recs[0])); e == api.OK {
			u.since = joined(u.since, a.recs)
		}
	case "sync":
		if e = u.j.Sync(); e == api.OK {
			u.synced, u.since = joined(u.synced, u.since), nil
		}
	case "rewrite":
		switch e = u.j.Rewrite(records(a.recs...)); e {
		case api.OK:
			u.known = known{synced: a.recs}
		case api.ErrDown:
			u.begun, u.interrupted = a.recs, true
		}
	case "open":
		var j *journal.Journal
		if j, _, e = journal.Open(u.d, "j"); e == api.OK {
			u.j = j
		}
	}
	return e
}

// interrupted is a user whose power went after n steps of the acts, which begin with making the journal.
func interrupted(t *testing.T, acts []act, n int) *user {
	t.Helper()
	u := &user{d: newDisk(t, 300)}
	must(t, u.d.Fuse(n))
	for _, a := range append([]act{reopens()}, acts...) {
		if e := u.do(a); e == api.ErrDown {
			return u
		} else if e != api.OK && e != api.ErrFull {
			t.Fatalf("%v: %d", a, e)
		}
	}
	return u
}

// survivors are the records that the file on the disk begins with.
func survivors(t *testing.T, d *disk.Disk) []string {
	t.Helper()
	l, _ := scan([]byte(held(t, d)["j"]))
	return l
}

func scripts() [][]act {
	return [][]act{
		{},
		{appends("a"), appends("bcd"), syncs(), appends(""), appends("ef")},
		{appends("a"), syncs(), rewritesTo("x", "yz"), appends("b"), syncs()},
		{appends("a"), syncs(), appends("bc"), rewritesTo("d"), appends("e")},
		{appends("a"), appends("b"), rewritesTo(), appends("c"), rewritesTo("c", "c", "c"), syncs()},
		{appends("a"), syncs(), appends("b"), reopens(), appends("c"), reopens(), syncs(), appends("d")},
	}
}

func TestCrash(t *testing.T) { // P10.3: wherever the power goes, whatever survives
	for _, acts := range scripts() {
		for n := range 24 {
			loose := interrupted(t, acts, n).d.Loose()
			for keep := range loose + 1 {
				for _, part := range []int{0, 1, 4, 7, 8, 9, 10, 99} {
					u := interrupted(t, acts, n)
					must(t, u.d.Crash(keep, part))
					want := survivors(t, u.d)
					if !u.allows(want) {
						t.Fatalf("%v, %d steps, Crash(%d, %d): %q of %+v", acts, n, keep, part, want, u.known)
					}
					opened(t, u.d, want...)
				}
			}
		}
	}
}

// reopened is how often Open has to be called till it isn't interrupted, with the crash that ended it the first time. The records are those that it answers.
func reopened(t *testing.T, d *disk.Disk, n, keep, part int) ([]string, bool) {
	t.Helper()
	must(t, d.Fuse(n))
	j, recs, e := journal.Open(d, "j")
	if e == api.OK {
		return texts(recs), false
	}
	if e != api.ErrDown || j != nil || len(recs) != 0 {
		t.Fatalf("Open: %v, %s, %d", j, brief(texts(recs)), e)
	}
	must(t, d.Crash(keep, part))
	_, recs, e = journal.Open(d, "j")
	must(t, e)
	return texts(recs), true
}

func TestCrashWithinOpen(t *testing.T) { // P10.3
	for _, acts := range scripts() {
		for n := range 24 {
			loose := interrupted(t, acts, n).d.Loose()
			for keep := range loose + 1 {
				for _, part := range []int{0, 7, 9, 10} {
					for m := range 8 {
						for twice := range 20 {
							u := interrupted(t, acts, n)
							must(t, u.d.Crash(keep, part))
							want := survivors(t, u.d)
							got, again := reopened(t, u.d, m, twice/4, []int{0, 3, 9, 99}[twice%4])
							if !slices.Equal(got, want) || !u.allows(got) {
								t.Fatalf("%v, %d steps, Crash(%d, %d), %d steps more, %d: %q, not %q", acts, n, keep, part, m, twice, got, want)
							}
							if !again {
								break
							}
						}
					}
				}
			}
		}
	}
}

func TestWorkAfterCrash(t *testing.T) { // P10.3: what is appended behind an end that was mended is read again
	acts := []act{appends("abc"), syncs(), appends("defghi"), appends("jkl")}
	for keep := range 3 {
		for part := range 16 {
			u := interrupted(t, acts, 99)
			must(t, u.d.Crash(keep, part))
			l := survivors(t, u.d)
			j := opened(t, u.d, l...)
			must(t, j.Append([]byte("new")))
			must(t, j.Sync())
			must(t, u.d.Crash(0, 0))
			j = opened(t, u.d, append(l, "new")...)
			must(t, j.Rewrite(records("all")))
			must(t, u.d.Crash(0, 0))
			opened(t, u.d, "all")
		}
	}
}

// randomAct is any act, of small records.
func randomAct(r *rand.Rand) act {
	some := func() string {
		b := make([]byte, r.Intn(10))
		for i := range b {
			b[i] = byte(r.Intn(3))
		}
		return string(b)
	}
	switch r.Intn(12) {
	case 0, 1, 2:
		return syncs()
	case 3:
		var l []string
		for range r.Intn(4) {
			l = append(l, some())
		}
		return rewritesTo(l...)
	case 4:
		return reopens()
	}
	return appends(some())
}

func TestRandom(t *testing.T) { // P10.2, P10.3
	r := rand.New(rand.NewSource(104))
	for range 300 {
		u := &user{d: newDisk(t, 120+r.Intn(200))}
		must(t, u.do(reopens()))
		for range 60 {
			u.d.Fuse(r.Intn(25))
			for e := api.OK; e != api.ErrDown; {
				a := randomAct(r)
				if e = u.do(a); e != api.OK && e != api.ErrDown && e != api.ErrFull {
					t.Fatalf("%v: %d", a, e)
				}
				if size := len(frames(joined(u.synced, u.since)...)); u.j.Size() != size {
					t.Fatalf("%v: Size = %d, not %d", a, u.j.Size(), size)
				}
			}
			must(t, u.d.Crash(r.Intn(6)-1, r.Intn(20)-1))
			want := survivors(t, u.d)
			j, recs, e := journal.Open(u.d, "j")
			if e == api.ErrFull {
				break
			}
			must(t, e)
			if !slices.Equal(texts(recs), want) || !u.allows(want) {
				t.Fatalf("%q, not %q, of %+v", recs, want, u.known)
			}
			u.j, u.known = j, known{synced: want}
		}
	}
}
