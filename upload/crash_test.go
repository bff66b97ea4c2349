package upload_test

import (
	"fmt"
	"maps"
	"math/rand"
	"slices"
	"strings"
	"testing"

	"hallmark/api"
	"hallmark/table"
	"hallmark/upload"
)

// one is an upload with its bytes.
type one struct {
	repo  string
	until int
	bytes string
}

// state is all that can be found on a disk.
type state struct {
	ups   map[int]one
	blobs map[string]bool
	extra contents
	next  int
}

func (s state) String() string {
	return fmt.Sprintf("%+v, blobs %q, beside %q, next %d", s.ups, slices.Sorted(maps.Keys(s.blobs)), s.extra, s.next)
}

func newState() state {
	return state{ups: map[int]one{}, blobs: map[string]bool{}, extra: contents{}, next: 1}
}

func (s state) clone() state {
	return state{maps.Clone(s.ups), maps.Clone(s.blobs), maps.Clone(s.extra), s.next}
}

// sessions are what Look tells of a state.
func (s state) sessions() map[int]upload.Session {
	m := map[int]upload.Session{}
	for id, x := range s.ups {
		m[id] = upload.Session{Repo: x.repo, Until: x.until, Size: len(x.bytes)}
	}
	return m
}

// expired are the uploads whose time is over, in order.
func (s state) expired(now int) []int {
	var l []int
	for _, id := range slices.Sorted(maps.Keys(s.ups)) {
		if s.ups[id].until <= now {
			l = append(l, id)
		}
	}
	return l
}

// act is one call on the uploads, with numbers and a text that mean what it takes.
type act struct {
	what, text string
	id, until  int
}

func begin(repo string, until int) act { return act{what: "start", text: repo, until: until} }
func adds(id int, p string) act        { return act{what: "patch", id: id, text: p} }
func ends(id int, value string) act    { return act{what: "finish", id: id, text: value} }
func drops(id int) act                 { return act{what: "cancel", id: id} }
func expires(now int) act              { return act{what: "expire", until: now} }
func reopens() act                     { return act{what: "open"} }
func (a act) String() string {
	return fmt.Sprintf("%s %d %d %.20q", a.what, a.id, a.until, a.text)
}

// done is the state after an act that succeeded, and what the act answers if nothing hinders it.
func (s state) done(a act) (state, api.Errno) {
	s = s.clone()
	x, ok := s.ups[a.id]
	if !ok && (a.what == "patch" || a.what == "finish" || a.what == "cancel") {
		return s, api.ErrNone
	}
	switch a.what {
	case "start":
		s.ups[s.next] = one{repo: a.text, until: a.until}
		s.next++
	case "patch":
		x.bytes += a.text
		s.ups[a.id] = x
	case "finish":
		s.blobs[x.bytes] = true
		s.extra["k"] = a.text
		delete(s.extra, "l")
		delete(s.ups, a.id)
	case "cancel":
		delete(s.ups, a.id)
	case "expire":
		for _, id := range s.expired(a.until) {
			delete(s.ups, id)
		}
	}
	return s, api.OK
}

// partly are the states that may be found where the power went in an act.
func (s state) partly(a act) []state {
	after, e := s.done(a)
	if e != api.OK {
		return []state{s}
	}
	l := []state{s}
	switch a.what {
	case "patch":
		for n := range len(a.text) {
			part, _ := s.done(adds(a.id, a.text[:n]))
			l = append(l, part)
		}
	case "expire":
		part := s
		for _, id := range s.expired(a.until) {
			part, _ = part.done(drops(id))
			l = append(l, part)
		}
	}
	return append(l, after)
}

// user is somebody who works with uploads, and remembers the state that was acknowledged, and which ones may be found.
type user struct {
	place
	state
	may []state
}

func newUser(t *testing.T, room int) *user {
	t.Helper()
	u := &user{place: bare(t, room, nil, contents{"l": "1"}), state: newState()}
	u.extra["l"] = "1"
	u.may = []state{u.state}
	return u
}

// call is what an act answers.
func (u *user) call(a act) (e api.Errno) {
	switch a.what {
	case "start":
		var id int
		if id, e = u.u.Start(a.text, a.until); e == api.OK && id != u.next {
			return -1
		}
	case "patch":
		e = u.u.Patch(a.id, len(u.ups[a.id].bytes), []byte(a.text))
	case "finish":
		e = u.u.Finish(a.id, sum(u.ups[a.id].bytes), set("k", a.text), gone("l"))
	case "cancel":
		e = u.u.Cancel(a.id)
	case "expire":
		var n int
		if n, e = u.u.Expire(a.until); e == api.OK && n != len(u.expired(a.until)) || e != api.OK && n != 0 {
			return -1
		}
	case "open":
		var x place
		if x, e = reopened(u.d); e == api.OK {
			u.place = x
		}
	}
	return e
}

// do performs an act, and reports it unless it answers what it should, and Look and List tell what they should. An act that ended an upload isn't one that may have.
func (u *user) do(t *testing.T, a act) api.Errno {
	t.Helper()
	after, want := u.done(a)
	e := u.call(a)
	switch e {
	case api.OK:
		u.state, u.may = after, []state{after}
	case api.ErrDown:
		u.may = u.partly(a)
		if a.what == "open" {
			return e
		}
		left := u.u.List()
		u.may = slices.DeleteFunc(u.may, func(s state) bool {
			return a.what != "start" && slices.ContainsFunc(slices.Collect(maps.Keys(s.ups)), func(id int) bool { return !slices.Contains(left, id) })
		})
		if a.what == "expire" || a.what == "cancel" || a.what == "finish" {
			u.state = u.may[0]
		}
	case api.ErrFull:
		if a.what == "expire" {
			u.cancelled(a)
		}
	}
	if e != want && e != api.ErrDown && e != api.ErrFull {
		t.Fatalf("%v: %d, not %d", a, e, want)
	}
	u.shows(t, u.sessions())
	return e
}

// cancelled notes how far an Expire came.
func (u *user) cancelled(a act) {
	for _, id := range u.expired(a.until) {
		if !slices.Contains(u.u.List(), id) {
			u.state, _ = u.done(drops(id))
		}
	}
	u.may = []state{u.state}
}

// found is the state of a place that was opened anew.
func (x place) found(t *testing.T) state {
	t.Helper()
	s := newState()
	files, values := x.files(t), x.values()
	// A torn end of the table's file is mended by a file that a crash can leave.
	delete(files, "t+")
	for _, id := range x.u.List() {
		look, e := x.u.Look(id)
		must(t, e)
		bytes, ok := files[key(id)]
		if !ok || look.Size != len(bytes) || values[key(id)] != open(look.Repo, look.Until) {
			t.Fatalf("%d: %v, %q, %q", id, look, bytes, values[key(id)])
		}
		s.ups[id] = one{look.Repo, look.Until, bytes}
		delete(files, key(id))
		delete(values, key(id))
	}
	for name, p := range files {
		if name != file(p) {
			t.Fatalf("a file %q of %q", name, p)
		}
		s.blobs[p] = true
	}
	for k, v := range values {
		switch {
		case k == "u":
			for s.next < 1000 && next(s.next) != v {
				s.next++
			}
		case strings.HasPrefix(k, "u/"):
			// The key of an upload that ended, where there was no room to say so.
			if v[0] != 32 {
				t.Fatalf("the value %q of %s is left", v, k)
			}
		default:
			s.extra[k] = v
		}
	}
	return s
}

// crashRoom is the room of a disk where little is refused.
const crashRoom = 2000

// allows reports it unless this may be found.
func (u *user) allows(t *testing.T, s state, what ...any) {
	t.Helper()
	if !slices.ContainsFunc(u.may, func(m state) bool { return m.String() == s.String() }) {
		t.Fatalf("%v: %v, and not one of %v", what, s, u.may)
	}
}

// interrupted is a user whose power went after n steps of the acts.
func interrupted(t *testing.T, acts []act, n int) *user {
	t.Helper()
	u := newUser(t, crashRoom)
	must(t, u.open())
	must(t, u.d.Fuse(n))
	for _, a := range acts {
		if e := u.do(t, a); e == api.ErrDown {
			return u
		}
	}
	return u
}

func scripts() [][]act {
	return [][]act{
		{begin("a", 9), adds(1, "ab"), adds(1, "c"), ends(1, "x")},
		{begin("a", 9), begin("b", 8), adds(2, "abc"), drops(1), adds(2, ""), adds(2, "d"), reopens(), adds(2, "e"), ends(2, "x")},
		{begin("a", 3), begin("b", 1), begin("c", 2), adds(3, "c"), adds(1, "a"), expires(2), begin("d", 0), expires(1), ends(1, "y")},
		{begin("a", 3), ends(1, ""), begin("a", 3), ends(2, "z"), begin("b", 3), adds(3, "zz"), drops(3), reopens(), drops(2), reopens()},
		{begin("a", 3), adds(1, "same"), begin("a", 3), adds(2, "same"), ends(2, "1"), ends(1, "2"), begin("c", 1), adds(3, "more")},
	}
}

// parts are how much of an Append survives: of a record of the table, too.
var parts = []int{0, 1, 2, 9, 40, 999}

// crashed calls f with users whose power went at each place, after each crash.
func crashed(t *testing.T, steps int, f func(u *user, what ...any)) {
	t.Helper()
	for i, acts := range scripts() {
		for n := range steps {
			loose := interrupted(t, acts, n).d.Loose()
			for keep := range loose + 2 {
				for _, part := range parts {
					u := interrupted(t, acts, n)
					must(t, u.d.Crash(keep, part))
					f(u, "script", i, "steps", n, "Crash", keep, part)
				}
			}
		}
	}
}

func TestCrash(t *testing.T) { // P13.3: wherever the power goes, whatever survives
	crashed(t, 60, func(u *user, what ...any) {
		x := opened(t, u.d)
		s := x.found(t)
		u.allows(t, s, what...)
		u.place, u.state, u.may = x, s, []state{s}
		u.goOn(t)
	})
}

// goOn is what somebody does behind a crash: it is there after the next one.
func (u *user) goOn(t *testing.T) {
	t.Helper()
	for id := range u.ups {
		must(t, u.do(t, adds(id, "on")))
	}
	for id, x := range u.ups {
		if x.until > 2 {
			must(t, u.do(t, ends(id, "end")))
		}
	}
	must(t, u.do(t, begin("new", 5)))
	must(t, u.d.Crash(0, 0))
	u.allows(t, opened(t, u.d).found(t))
}

func TestCrashWithinOpen(t *testing.T) { // P13.3
	crashed(t, 45, func(u *user, what ...any) {
		files := held(t, u.d)
		for m := range 7 {
			for _, again := range [][2]int{{0, 0}, {0, 9}, {1, 0}, {1, 9}, {2, 99}, {9, 9}} {
				v := *u
				v.d = bare(t, crashRoom, nil, nil).d
				must(t, v.d.Remove("t"))
				for name, p := range files {
					must(t, v.d.Create(name))
					must(t, v.d.Append(name, []byte(p)))
				}
				must(t, v.d.Sync())
				must(t, v.d.Fuse(m))
				if _, e := reopened(v.d); e != api.OK && e != api.ErrDown {
					t.Fatalf("%v: opened anew: %d", what, e)
				}
				must(t, v.d.Crash(again[0], again[1]))
				v.allows(t, opened(t, v.d).found(t), append(what, m, again)...)
			}
		}
	})
}

func TestOldUploadsAfterACrash(t *testing.T) { // P13.3: what they acknowledge isn't lost, although all was to be opened again
	acknowledged := 0
	crashed(t, 45, func(u *user, what ...any) {
		u.shows(t, u.sessions())
		for _, a := range []act{adds(1, "p"), adds(2, "qq"), ends(1, "r"), adds(3, ""), begin("a", 1), ends(2, "s"), adds(3, "u"), drops(3), expires(9)} {
			after, want := u.done(a)
			switch e := u.call(a); e {
			case api.OK:
				acknowledged++
				u.acknowledge(a)
				u.state = after
			case want, api.ErrDown:
			default:
				if a.what != "start" || e != api.ErrTwice {
					t.Fatalf("%v: %v: %d", what, a, e)
				}
			}
			u.shows(t, u.sessions())
		}
		must(t, u.d.Sync())
		x, e := reopened(u.d)
		if e != api.OK {
			t.Fatalf("%v: opened anew: %d; known is %v", what, e, u.state)
		}
		u.allows(t, x.found(t), what...)
	})
	if acknowledged < 1000 {
		t.Errorf("only %d acts were acknowledged", acknowledged)
	}
}

// acknowledge notes an act of somebody who may know less than what can be found: of that, only what goes with the act remains.
func (u *user) acknowledge(a act) {
	var may []state
	for _, s := range u.may {
		switch x, ok := s.ups[a.id]; {
		case a.what == "expire":
			for _, id := range u.expired(a.until) {
				s, _ = s.done(drops(id))
			}
			may = append(may, s)
		case a.what == "start" && s.next == u.next, ok && x == u.ups[a.id]:
			s, _ = s.done(a)
			may = append(may, s)
		}
	}
	u.may = may
}

func TestBothComeAbout(t *testing.T) { // P13.3: with its Apply, a Finish is done wholly; without, not at all
	acts := []act{begin("a", 9), adds(1, "abc"), ends(1, "v")}
	before, _ := newUser(t, crashRoom).done(acts[0])
	before, _ = before.done(acts[1])
	before.extra["l"] = "1"
	after, _ := before.done(acts[2])
	record := 8 + 1 + (1 + 1 + 1 + 1 + 1) + (1 + 1 + 1) + (1 + 1 + 10 + 1 + len(ending("abc", "a", 9)))
	for n := 5; n < 14; n++ {
		for keep := range 3 {
			for part := range record + 2 {
				u := interrupted(t, acts, n)
				must(t, u.d.Crash(keep, part))
				want := before
				// 5: the Append of the Apply; 6: its Sync; from then on the upload has ended.
				if n == 6 && (keep > 0 || part >= record) || n > 6 {
					want = after
				}
				if got := opened(t, u.d).found(t); got.String() != want.String() {
					t.Fatalf("%d steps, Crash(%d, %d): %v, not %v", n, keep, part, got, want)
				}
			}
		}
	}
}

func TestPatchIsAcknowledged(t *testing.T) { // P13.3: none or some of the bytes of the Patch that was interrupted, behind all others
	acts := []act{begin("a", 9), adds(1, "abc"), adds(1, "defg"), adds(1, "hi")}
	for _, y := range []struct {
		steps       int
		want, loose string
	}{{3, "", ""}, {4, "", "abc"}, {5, "abc", ""}, {6, "abc", "defg"}, {7, "abcdefg", ""}, {8, "abcdefg", "hi"}, {9, "abcdefghi", ""}} {
		for keep := range 3 {
			for part := range 6 {
				u := interrupted(t, acts, y.steps)
				known := map[int]upload.Session{1: {Repo: "a", Until: 9, Size: len(y.want)}}
				u.shows(t, known)
				must(t, u.d.Crash(keep, part))
				u.shows(t, known)
				want := y.want + y.loose[:min(part, len(y.loose))]
				if keep > 0 {
					want = y.want + y.loose
				}
				x := opened(t, u.d)
				x.shows(t, map[int]upload.Session{1: {Repo: "a", Until: 9, Size: len(want)}})
				if got := x.files(t)[key(1)]; got != want {
					t.Fatalf("%d steps, Crash(%d, %d): %q, not %q", y.steps, keep, part, got, want)
				}
			}
		}
	}
}

func TestLookWithoutDisk(t *testing.T) { // P13.3: Look and List ask what is known, whatever became of the disk
	x := busy(t)
	for _, name := range []string{key(1), key(3), key(7), "t"} {
		must(t, x.d.Remove(name))
	}
	x.shows(t, busySessions())
	x.off(t)
	x.shows(t, busySessions())
	must(t, x.d.Crash(0, 0))
	x.shows(t, busySessions())
}

// randomAct is any act, mostly on an upload that there is.
func randomAct(r *rand.Rand, u *user) act {
	ids := slices.Sorted(maps.Keys(u.ups))
	id := r.Intn(u.next + 2)
	if len(ids) > 0 && r.Intn(8) > 0 {
		id = ids[r.Intn(len(ids))]
	}
	switch r.Intn(16) {
	case 0:
		return reopens()
	case 1:
		return expires(r.Intn(12) - 1)
	case 2:
		return drops(id)
	case 3, 4:
		return ends(id, strings.Repeat("v", r.Intn(3)))
	case 5, 6, 7, 8:
		return begin([]string{"a", "b/c"}[r.Intn(2)], r.Intn(20))
	}
	return adds(id, strings.Repeat("x", r.Intn(5))+strings.Repeat("y", r.Intn(3)))
}

func TestRandom(t *testing.T) { // P13.1 to P13.3
	r := rand.New(rand.NewSource(134))
	for range 150 {
		u := newUser(t, 300+r.Intn(crashRoom))
		must(t, u.open())
		for range 30 {
			must(t, u.d.Fuse(r.Intn(60)))
			for e := api.OK; e != api.ErrDown; {
				// Where everything is refused, nothing takes the power away but this.
				if e == api.ErrFull && u.t.Fold() == api.ErrFull {
					must(t, u.d.Fuse(0))
				}
				if u.d.Down() {
					break
				}
				e = u.do(t, randomAct(r, u))
			}
			must(t, u.d.Crash(r.Intn(7)-1, r.Intn(50)-1))
			u.shows(t, u.sessions())
			x, e := reopened(u.d)
			if e == api.ErrFull {
				break
			}
			must(t, e)
			s := x.found(t)
			u.allows(t, s)
			u.place, u.state, u.may = x, s, []state{s}
		}
	}
}

func TestChangesOfOthers(t *testing.T) { // P13.2: what is applied with a Finish may be many changes
	var more []table.Change
	for i := range table.Most - 1 {
		more = append(more, set(fmt.Sprintf("k%03d", i), fmt.Sprint(i)))
	}
	for n := range 6 {
		for keep := range 2 {
			x := laid(t, 1<<16, contents{key(1): "abc"}, contents{key(1): open("a", 9)})
			must(t, x.d.Fuse(n))
			e := x.u.Finish(1, sum("abc"), more...)
			if (e == api.OK) != (n == 6) && e != api.ErrDown {
				t.Fatalf("Finish: %d", e)
			}
			must(t, x.d.Crash(keep, 500))
			y := opened(t, x.d)
			applied := n > 1 || n == 1 && keep == 1
			if _, ok := y.t.Get("k254"); ok != applied || y.s.Whole(sum("abc")) != applied || (len(y.u.List()) == 0) != applied {
				t.Fatalf("%d steps, Crash(%d): %v", n, keep, ok)
			}
		}
	}
}
