package upload_test

import (
	"maps"
	"math/rand"
	"slices"
	"strings"
	"testing"

	"hallmark/api"
	"hallmark/table"
	"hallmark/upload"
)

// plain is uploads that perform the chapter's steps with the layers below, and nothing else, and that are never opened again.
type plain struct {
	place
	ups  map[int]one
	next int
	// spent is set once the table answered ErrDown.
	spent bool
	// doubtful are uploads of whose end the disk was told when the power went.
	doubtful map[int]bool
}

// apply is the table's Apply.
func (b *plain) apply(l ...table.Change) api.Errno {
	e := b.t.Apply(l...)
	b.spent = b.spent || e == api.ErrDown
	return e
}

// end is the Apply with which an upload ends.
func (b *plain) end(id int, l ...table.Change) api.Errno {
	loose := b.d.Loose()
	e := b.apply(l...)
	if e == api.OK {
		delete(b.ups, id)
	} else if b.d.Loose() > loose {
		b.doubtful[id] = true
	}
	return e
}

// file is the error of the file of an upload, whose bytes may be others than those that were acknowledged: no call goes on with these. It is known while there is power.
func (b *plain) file(id int) api.Errno {
	if b.d.Down() {
		return api.OK
	}
	n, e := b.d.Size(key(id))
	if e == api.OK && n != len(b.ups[id].bytes) {
		return api.ErrDown
	}
	return e
}

func (b *plain) start(repo string, until int) api.Errno {
	switch {
	case !repoForm.MatchString(repo):
		return api.ErrName
	case until < 0 || until > api.MaxTime:
		return api.ErrArg
	}
	e := b.d.Create(key(b.next))
	if e != api.OK {
		return e
	}
	e = b.apply(set(key(b.next), open(repo, until)), set("u", next(b.next+1)))
	if e == api.OK {
		b.ups[b.next] = one{repo: repo, until: until}
		b.next++
		return e
	}
	if failed := b.d.Remove(key(b.next)); failed != api.OK {
		return failed
	}
	return e
}

func (b *plain) patch(id, at int, p string) api.Errno {
	x, ok := b.ups[id]
	switch {
	case !ok:
		return api.ErrNone
	case at != len(x.bytes):
		return api.ErrOffset
	case len(p)+len(x.bytes) > 1<<20:
		return api.ErrLimit
	}
	if e := b.file(id); e != api.OK {
		return e
	}
	if b.doubtful[id] {
		return api.ErrDown
	}
	if e := inOrder(appends(key(id), p), syncs)(&b.place); e != api.OK {
		return e
	}
	x.bytes += p
	b.ups[id] = x
	return api.OK
}

func (b *plain) finish(id int, p string, more []table.Change) api.Errno {
	x, ok := b.ups[id]
	switch {
	case !ok:
		return api.ErrNone
	case x.bytes != p:
		return api.ErrDigest
	}
	all := append(slices.Clip(more), set(key(id), ending(p, x.repo, x.until)))
	if b.spent {
		return api.ErrDown
	}
	if _, e := table.Encode(all); e != api.OK {
		return e
	}
	if e := b.file(id); e != api.OK {
		return e
	}
	if e := b.end(id, all...); e != api.OK {
		return e
	}
	forget := func(*place) api.Errno { return b.apply(gone(key(id))) }
	return inOrder(counts(api.ErrNone, adopts(id, p)), counts(api.ErrFull, forget))(&b.place)
}

func (b *plain) cancel(id int) api.Errno {
	if _, ok := b.ups[id]; !ok {
		return api.ErrNone
	}
	if e := b.end(id, gone(key(id))); e != api.OK {
		return e
	}
	return inOrder(removes(key(id)), syncs)(&b.place)
}

func (b *plain) expire(now int) (int, api.Errno) {
	n := 0
	for _, id := range (state{ups: b.ups}).expired(now) {
		if e := b.cancel(id); e != api.OK {
			return 0, e
		}
		n++
	}
	return n, api.OK
}

// sessions are what Look tells.
func (b *plain) sessions() map[int]upload.Session { return state{ups: b.ups}.sessions() }

// pair is a place whose uploads are tested, and one like it where the steps alone are performed.
type pair struct {
	a place
	b plain
}

// newPair is a pair of busy places with so many bytes free.
func newPair(t *testing.T, free int) *pair {
	t.Helper()
	used := busy(t).d.Used()
	begin := func() place {
		return laid(t, used+free, contents{key(1): "abc", key(3): "", key(7): "xy", file("old"): "old", "x": "x"}, busyValues())
	}
	ups := map[int]one{1: {"a", 5, "abc"}, 3: {"b/c", 7, ""}, 7: {"a", 5, "xy"}}
	return &pair{a: begin(), b: plain{place: begin(), ups: ups, next: 8, doubtful: map[int]bool{}}}
}

// both does something to the layers below, in both places.
func (p *pair) both(t *testing.T, do deed) {
	t.Helper()
	e, f := do(&p.a), do(&p.b.place)
	if e != f {
		t.Fatalf("of the layers below: %d, not %d", e, f)
	}
	p.same(t, "below")
}

// answers reports it unless both answered the same, and are alike.
func (p *pair) answers(t *testing.T, what string, e, want api.Errno) {
	t.Helper()
	if e != want {
		t.Fatalf("%s: %d, not %d; known is %v", what, e, want, p.b.ups)
	}
	p.same(t, what)
}

func (p *pair) same(t *testing.T, what string) {
	t.Helper()
	a, b := p.a, p.b.place
	if a.d.Down() != b.d.Down() || a.d.Loose() != b.d.Loose() || a.d.Used() != b.d.Used() || !maps.Equal(a.values(), b.values()) {
		t.Fatalf("%s: Down: %v, not %v; %d loose, not %d; %d bytes, not %d; %q, not %q", what, a.d.Down(), b.d.Down(), a.d.Loose(), b.d.Loose(), a.d.Used(), b.d.Used(), a.values(), b.values())
	}
	if !a.d.Down() && !maps.Equal(held(t, a.d), held(t, b.d)) {
		t.Fatalf("%s: %q, not %q", what, held(t, a.d), held(t, b.d))
	}
	a.shows(t, p.b.sessions())
}

func (p *pair) start(t *testing.T, repo string, until int) {
	t.Helper()
	want := p.b.next
	id, e := p.a.u.Start(repo, until)
	f := p.b.start(repo, until)
	if e != api.OK {
		want = 0
	}
	if id != want {
		t.Fatalf("Start: %d, not %d", id, want)
	}
	p.answers(t, "Start", e, f)
}

func (p *pair) patch(t *testing.T, id, at int, text string) {
	t.Helper()
	p.answers(t, "Patch", p.a.u.Patch(id, at, []byte(text)), p.b.patch(id, at, text))
}

// finish is also what was answered.
func (p *pair) finish(t *testing.T, id int, text string, more ...table.Change) api.Errno {
	t.Helper()
	e := p.a.u.Finish(id, sum(text), more...)
	p.answers(t, "Finish", e, p.b.finish(id, text, more))
	return e
}

func (p *pair) cancel(t *testing.T, id int) {
	t.Helper()
	p.answers(t, "Cancel", p.a.u.Cancel(id), p.b.cancel(id))
}

func (p *pair) expire(t *testing.T, now int) {
	t.Helper()
	n, e := p.a.u.Expire(now)
	want, f := p.b.expire(now)
	if n != want {
		t.Fatalf("Expire: %d, not %d", n, want)
	}
	p.answers(t, "Expire", e, f)
}

// fold is the table's Fold, by somebody else.
func (p *pair) fold(t *testing.T) {
	t.Helper()
	p.both(t, func(x *place) api.Errno { return x.t.Fold() })
	p.b.spent = p.b.spent || p.b.d.Down()
}

// apply is the table's Apply, by somebody else.
func (p *pair) apply(t *testing.T, l ...table.Change) {
	t.Helper()
	e, f := p.a.t.Apply(l...), p.b.apply(l...)
	p.answers(t, "Apply", e, f)
}

func (p *pair) off(t *testing.T) {
	t.Helper()
	p.a.off(t)
	p.b.off(t)
}

func fuses(n int) deed { return func(x *place) api.Errno { return x.d.Fuse(n) } }
func crashes(keep, part int) deed {
	return func(x *place) api.Errno { return x.d.Crash(keep, part) }
}

// refused are changes that Apply refuses ahead of its steps, with the errors that it has for them together with that of a Finish.
func refused() map[api.Errno][][]table.Change {
	many := slices.Repeat([]table.Change{set("k", "")}, table.Most)
	long := table.Change{Key: "k", Value: make([]byte, api.MaxValue)}
	huge := []table.Change{long, long, long, long}
	return map[api.Errno][][]table.Change{
		api.ErrArg:   {{set("", "")}, {gone("")}, {set("k", "v"), set(strings.Repeat("k", api.MaxKey+1), "")}, {{Key: "k", Value: make([]byte, api.MaxValue+1)}}, {set("", ""), long, long, long, long}},
		api.ErrLimit: {many, append(slices.Clip(many), set("", "")), huge, append(slices.Clip(huge), set("", ""))},
	}
}

// eachRefused calls f with each of them.
func eachRefused(f func(more []table.Change, want api.Errno)) {
	for want, lists := range refused() {
		for _, more := range lists {
			f(more, want)
		}
	}
}

func TestFinishOfRefusedChangesWithoutPower(t *testing.T) { // P13.2: the errors of Encode come ahead of those of the disk, whatever took the power away
	for _, lose := range []func(p *pair){
		func(p *pair) { p.off(t) },
		func(p *pair) { p.both(t, fuses(0)); p.patch(t, 1, 3, "") },
		func(p *pair) { p.both(t, fuses(1)); p.patch(t, 1, 3, "d") },
		func(p *pair) { p.both(t, fuses(1)); p.patch(t, 7, 2, "d") },
		func(p *pair) { p.both(t, fuses(0)); p.start(t, "a", 1) },
		func(p *pair) { p.both(t, fuses(3)); p.cancel(t, 7) },
	} {
		eachRefused(func(more []table.Change, want api.Errno) {
			p := newPair(t, 1000)
			lose(p)
			if !p.a.d.Down() {
				t.Fatal("there is power")
			}
			for _, x := range []struct {
				id   int
				text string
				want api.Errno
			}{{1, "abc", want}, {3, "", want}, {1, "ab", api.ErrDigest}, {2, "", api.ErrNone}, {1, "abc", want}} {
				if e := p.finish(t, x.id, x.text, more...); e != x.want {
					t.Fatalf("Finish(%d, %q): %d, not %d", x.id, x.text, e, x.want)
				}
			}
			// Nothing came of it: the upload goes on when there is power again.
			p.both(t, crashes(0, 0))
			p.patch(t, 1, 3, "de")
			if e := p.finish(t, 1, "abcde"); e != api.OK {
				t.Fatalf("Finish: %d", e)
			}
		})
	}
}

func TestFinishOfRefusedChangesInSpentTable(t *testing.T) { // P13.2: an earlier call of the table that answered ErrDown comes ahead of the errors of Encode
	for _, spend := range []func(p *pair){
		func(p *pair) { p.both(t, fuses(0)); p.apply(t, set("k", "v")) },
		func(p *pair) { p.both(t, fuses(1)); p.apply(t, set("k", "v")) },
		func(p *pair) { p.both(t, fuses(3)); p.fold(t) },
		func(p *pair) { p.both(t, fuses(0)); p.cancel(t, 1) },
		func(p *pair) { p.both(t, fuses(1)); p.cancel(t, 7) },
		func(p *pair) { p.both(t, fuses(0)); p.finish(t, 1, "abc") },
		func(p *pair) { p.both(t, fuses(1)); p.start(t, "a", 1) },
		// Without power, too, a Finish is the call of the table that answers ErrDown.
		func(p *pair) { p.off(t); p.finish(t, 1, "abc") },
		func(p *pair) { p.off(t); p.finish(t, 3, "", set("k", "v")) },
		func(p *pair) { p.off(t); p.cancel(t, 3) },
		func(p *pair) { p.off(t); p.expire(t, 5) },
	} {
		for _, crash := range []bool{false, true} {
			for _, missing := range []bool{false, true} {
				eachRefused(func(more []table.Change, _ api.Errno) {
					p := newPair(t, 1000)
					spend(p)
					if crash {
						p.both(t, crashes(0, 0))
					}
					if crash && missing {
						p.both(t, removes(key(1)))
					}
					for _, l := range [][]table.Change{more, nil} {
						if e := p.finish(t, 1, "abc", l...); e != api.ErrDown {
							t.Fatalf("Finish: %d", e)
						}
					}
					p.apply(t, set("k", "v"))
				})
			}
		}
	}
}

func TestFinishOfRefusedChangesOfASpoiltFile(t *testing.T) { // P13.2: they come ahead of what the file has become, too
	for _, spoil := range []struct {
		do   func(p *pair)
		want api.Errno
	}{
		{func(p *pair) { p.both(t, removes(key(1))) }, api.ErrNone},
		{func(p *pair) { p.both(t, fuses(1)); p.patch(t, 1, 3, "de"); p.both(t, crashes(0, 1)) }, api.ErrDown},
		{func(p *pair) { p.both(t, fuses(1)); p.patch(t, 1, 3, "de"); p.both(t, crashes(1, 0)) }, api.ErrDown},
	} {
		eachRefused(func(more []table.Change, want api.Errno) {
			p := newPair(t, 1000)
			spoil.do(p)
			if e := p.finish(t, 1, "abc", more...); e != want {
				t.Fatalf("Finish: %d, not %d", e, want)
			}
			if e := p.finish(t, 1, "abc", set("k", "v")); e != spoil.want {
				t.Fatalf("Finish: %d, not %d", e, spoil.want)
			}
			// The others go on.
			if e := p.finish(t, 7, "xy", set("k", "v")); e != api.OK {
				t.Fatalf("Finish: %d", e)
			}
		})
	}
}

func TestPatchAfterAnEndThatWasNot(t *testing.T) { // P13.1, P13.3: an end of which the disk was not told is none
	for _, end := range []func(p *pair){
		func(p *pair) { p.off(t); p.cancel(t, 1) },
		func(p *pair) { p.off(t); p.finish(t, 1, "abc") },
		func(p *pair) { p.off(t); p.expire(t, 9) },
		func(p *pair) { p.both(t, fuses(0)); p.cancel(t, 1) },
		func(p *pair) { p.both(t, fuses(0)); p.finish(t, 1, "abc", set("k", "v")) },
		func(p *pair) {
			p.both(t, fuses(1))
			p.apply(t, set("k", "v"))
			p.both(t, crashes(9, 9))
			p.finish(t, 1, "abc")
		},
	} {
		p := newPair(t, 1000)
		end(p)
		p.both(t, crashes(9, 9))
		must(t, p.a.u.Patch(1, 3, []byte("de")))
		must(t, p.a.d.Crash(0, 0))
		want := busySessions()
		want[1] = upload.Session{Repo: "a", Until: 5, Size: 5}
		p.a.shows(t, want)
		y := opened(t, p.a.d)
		y.shows(t, want)
		must(t, y.u.Finish(1, sum("abcde")))
	}
}

// randomMore are changes that go with a Finish; some are refused.
func randomMore(r *rand.Rand) []table.Change {
	switch r.Intn(6) {
	case 0:
		l := refused()[[]api.Errno{api.ErrArg, api.ErrLimit}[r.Intn(2)]]
		return l[r.Intn(len(l))]
	case 1:
		return []table.Change{set("k", strings.Repeat("v", r.Intn(40))), gone("m")}
	}
	return nil
}

// randomly does something, which is mostly a call that should succeed.
func (p *pair) randomly(t *testing.T, r *rand.Rand) {
	t.Helper()
	id := r.Intn(p.b.next + 1)
	if ids := slices.Sorted(maps.Keys(p.b.ups)); len(ids) > 0 && r.Intn(8) > 0 {
		id = ids[r.Intn(len(ids))]
	}
	text := p.b.ups[id].bytes
	switch r.Intn(20) {
	case 0, 1:
		p.start(t, []string{"a", "b/c", "A"}[r.Intn(3)], r.Intn(12)-1)
	case 2, 3, 4, 5, 6:
		p.patch(t, id, len(text)+r.Intn(12)/11, strings.Repeat("p", r.Intn(6)))
	case 7, 8, 9, 10, 11:
		p.finish(t, id, text[r.Intn(12)/11*min(1, len(text)):], randomMore(r)...)
	case 12:
		p.cancel(t, id)
	case 13:
		p.expire(t, r.Intn(10))
	case 14:
		p.apply(t, set("k", strings.Repeat("v", r.Intn(40))))
	case 15:
		p.apply(t, set("", ""))
	case 16:
		if r.Intn(4) == 0 && !p.b.d.Down() {
			p.both(t, removes(key(id)))
		}
	case 17:
		p.both(t, fuses(r.Intn(4)))
	default:
		if p.b.d.Down() {
			p.both(t, crashes(r.Intn(4)-1, r.Intn(30)-1))
		}
	}
}

func TestPlainSteps(t *testing.T) { // P13.1 to P13.3: the errors of the first step that has one, also without power and behind a crash after which nothing is opened again
	r := rand.New(rand.NewSource(135))
	for range 2000 {
		p := newPair(t, r.Intn(300))
		for range 12 {
			p.randomly(t, r)
		}
	}
}
