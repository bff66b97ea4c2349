package blob_test

import (
	"crypto/sha256"
	"fmt"
	"math/rand"
	"slices"
	"strings"
	"testing"

	"hallmark/api"
	"hallmark/blob"
)

// act is one call on a store.
type act struct {
	what, text string
}

func keeps(p string) act     { return act{"put", p} }
func drops(p string) act     { return act{"delete", p} }
func takesOver(p string) act { return act{"adopt", p} }
func reopens() act           { return act{what: "new"} }
func (a act) String() string { return fmt.Sprintf("%s %.20q", a.what, a.text) }

// user is somebody who works on a store, and remembers which texts it must have by what was acknowledged, and which it may have by what was interrupted.
type user struct {
	place
	must, may map[string]bool
}

func newUser(t *testing.T, room int) *user {
	t.Helper()
	return &user{place: empty(t, room), must: map[string]bool{}, may: map[string]bool{}}
}

// do is what the act answers.
func (u *user) do(a act) (e api.Errno) {
	switch a.what {
	case "put":
		_, e = u.s.Put([]byte(a.text))
		u.came(a.text, e)
	case "delete":
		switch e = u.s.Delete(sum(a.text)); e {
		case api.OK:
			delete(u.must, a.text)
		case api.ErrDown:
			if u.must[a.text] {
				u.may[a.text] = true
			}
			delete(u.must, a.text)
		}
	case "adopt":
		if e = u.written("u/1", a.text); e == api.OK {
			e = u.s.Adopt("u/1", sum(a.text))
			u.came(a.text, e)
		}
	case "new":
		var s *blob.Store
		if s, e = blob.New(u.d); e == api.OK {
			u.s = s
		}
	}
	return e
}

// came notes what is known of a text that was to be kept.
func (u *user) came(p string, e api.Errno) {
	switch {
	case e == api.OK:
		u.must[p] = true
	case e == api.ErrDown && !u.must[p]:
		u.may[p] = true
	}
}

// written is the error of writing a file that doesn't last yet.
func (u *user) written(name, p string) api.Errno {
	if e := u.d.Remove(name); e != api.OK && e != api.ErrNone {
		return e
	}
	if e := u.d.Create(name); e != api.OK {
		return e
	}
	return u.d.Append(name, []byte(p))
}

// found are the texts of the files of digests, which must be complete, be they asked of the disk or of a store.
func (u *user) found(t *testing.T) []string {
	t.Helper()
	var texts []string
	for name, p := range held(t, u.d) {
		if !strings.HasPrefix(name, "b/") {
			continue
		}
		if name != named(sha256.Sum256([]byte(p))) {
			t.Fatalf("the file %s is not complete: %.100q", name, p)
		}
		texts = append(texts, p)
	}
	has(t, u.s, texts...)
	return texts
}

// right reports it unless the disk has what must be there, and nothing but that and what may be.
func (u *user) right(t *testing.T, what ...any) []string {
	t.Helper()
	texts := u.found(t)
	for p := range u.must {
		if !slices.Contains(texts, p) {
			t.Fatalf("%v: %.20q is lost", what, p)
		}
	}
	for _, p := range texts {
		if !u.must[p] && !u.may[p] {
			t.Fatalf("%v: nobody knows of %.20q", what, p)
		}
	}
	return texts
}

// interrupted is a user whose power went after n steps of the acts.
func interrupted(t *testing.T, acts []act, n int) *user {
	t.Helper()
	u := newUser(t, 30)
	must(t, u.d.Fuse(n))
	for _, a := range acts {
		e := u.do(a)
		if e == api.ErrDown {
			return u
		}
		if e != api.OK && e != api.ErrFull && e != api.ErrNone {
			t.Fatalf("%v: %d", a, e)
		}
		u.right(t, acts, n, a)
	}
	return u
}

func scripts() [][]act {
	big := strings.Repeat("b", 28)
	return [][]act{
		{},
		{keeps("abc"), keeps(""), keeps("abc"), keeps("defg")},
		{keeps("abc"), drops("abc"), keeps("abc"), drops("abc"), drops("abc")},
		{keeps("abc"), keeps(big), keeps("de"), drops("abc"), keeps(big)},
		{takesOver("abc"), takesOver("abc"), drops("abc"), takesOver("abc"), keeps("abc")},
		{keeps("abc"), takesOver("abc"), takesOver("de"), reopens(), drops("de"), takesOver("")},
		{keeps("a"), reopens(), keeps("b"), drops("a"), reopens(), takesOver("a"), drops("b")},
	}
}

func TestCrash(t *testing.T) { // P12.3: wherever the power goes, whatever survives, be the store opened anew or not
	for _, acts := range scripts() {
		for n := range 32 {
			loose := interrupted(t, acts, n).d.Loose()
			for keep := range loose + 2 {
				for _, part := range []int{0, 1, 2, 3, 99} {
					for _, anew := range []bool{false, true} {
						u := interrupted(t, acts, n)
						must(t, u.d.Crash(keep, part))
						old := u.right(t, acts, n, keep, part)
						if anew {
							must(t, u.do(reopens()))
							if _, e := u.d.Size("b+"); e != api.ErrNone || !slices.Equal(sums(u.found(t)...), sums(old...)) {
								t.Fatalf("%v, %d steps: New left b+, or changed the rest: %d", acts, n, e)
							}
						}
						u.goOn(t, old)
					}
				}
			}
		}
	}
}

// goOn is what somebody does behind a crash: it is there after the next one.
func (u *user) goOn(t *testing.T, old []string) {
	t.Helper()
	for _, p := range old {
		must(t, u.do(keeps(p)))
	}
	if len(old) > 0 {
		must(t, u.do(drops(old[0])))
		old = old[1:]
	}
	// A file that was to be adopted is in nobody's way.
	if e := u.d.Remove("u/1"); e != api.OK && e != api.ErrNone {
		t.Fatalf("Remove: %d", e)
	}
	if e := u.do(keeps("x")); e == api.OK {
		old = append(slices.Clip(old), "x")
	} else if e != api.ErrFull {
		t.Fatalf("Put: %d", e)
	}
	must(t, u.d.Crash(0, 0))
	if got := u.found(t); !slices.Equal(sums(got...), sums(old...)) {
		t.Fatalf("%.100q, not %.100q", got, old)
	}
}

func TestBothComeAbout(t *testing.T) { // P12.3: a Put, a Delete or an Adopt that was interrupted is there whole, or not at all
	for _, y := range []struct {
		acts  []act
		steps int
		lost  []string
		whole []string
	}{
		{[]act{keeps("abc")}, 4, nil, []string{"abc"}},
		{[]act{keeps("abc"), drops("abc")}, 6, []string{"abc"}, nil},
		{[]act{takesOver("abc")}, 3, nil, []string{"abc"}},
	} {
		for part := range 5 {
			u := interrupted(t, y.acts, y.steps)
			loose := u.d.Loose()
			must(t, u.d.Crash(loose-1, part))
			has(t, opened(t, u.d), y.lost...)
			u = interrupted(t, y.acts, y.steps)
			must(t, u.d.Crash(loose, part))
			has(t, opened(t, u.d), y.whole...)
		}
	}
	// Nothing has the name of a digest before all of it lasts, whatever part of it does.
	for n := range 4 {
		for keep := range 4 {
			for part := range 5 {
				u := interrupted(t, []act{keeps("abc")}, n)
				must(t, u.d.Crash(keep, part))
				has(t, u.s)
				has(t, opened(t, u.d))
			}
		}
	}
}

func TestCrashWithinNew(t *testing.T) { // P12.3
	for _, acts := range scripts() {
		for n := range 32 {
			for _, part := range []int{0, 2, 99} {
				for m := range 3 {
					for again := range 3 {
						u := interrupted(t, acts, n)
						must(t, u.d.Crash(u.d.Loose(), part))
						old := u.right(t, acts, n, part)
						must(t, u.d.Fuse(m))
						if s, e := blob.New(u.d); (s == nil) != (e != api.OK) || e != api.OK && e != api.ErrDown {
							t.Fatalf("New: %v, %d", s, e)
						}
						must(t, u.d.Crash(again, 0))
						must(t, u.do(reopens()))
						if got := u.found(t); !slices.Equal(sums(got...), sums(old...)) {
							t.Fatalf("%v, %d steps, %d more: %.100q, not %.100q", acts, n, m, got, old)
						}
					}
				}
			}
		}
	}
}

// randomAct is any act, of few texts.
func randomAct(r *rand.Rand) act {
	p := strings.Repeat("x", r.Intn(4)) + strings.Repeat("y", r.Intn(3))
	switch r.Intn(12) {
	case 0:
		return reopens()
	case 1, 2, 3, 4:
		return drops(p)
	case 5, 6:
		return takesOver(p)
	}
	return keeps(p)
}

func TestRandom(t *testing.T) { // P12.1, P12.2, P12.3
	r := rand.New(rand.NewSource(123))
	for range 300 {
		u := newUser(t, r.Intn(40))
		for range 40 {
			must(t, u.d.Fuse(r.Intn(40)))
			for e := api.OK; e != api.ErrDown; {
				// Where everything is refused, nothing takes the power away but this.
				if r.Intn(60) == 0 {
					must(t, u.d.Fuse(0))
				}
				a := randomAct(r)
				there := u.must[a.text]
				switch e = u.do(a); {
				case e == api.ErrNone && a.what == "delete" && !there, e == api.ErrFull && a.what != "delete" && a.what != "new", e == api.ErrDown:
				case e != api.OK || a.what == "delete" && !there:
					t.Fatalf("%v: %d; there: %v", a, e, there)
				}
				if e != api.ErrDown {
					u.right(t, a)
				}
			}
			must(t, u.d.Crash(r.Intn(7)-1, r.Intn(6)-1))
			texts := u.right(t, "crash")
			if r.Intn(2) == 0 {
				must(t, u.do(reopens()))
			}
			u.must, u.may = map[string]bool{}, map[string]bool{}
			for _, p := range texts {
				u.must[p] = true
			}
		}
	}
}

func TestManyStores(t *testing.T) { // R5: what a store answers hangs on its disk alone
	r := rand.New(rand.NewSource(124))
	users := []*user{newUser(t, 20), newUser(t, 30), newUser(t, 1000)}
	for range 3000 {
		u := users[r.Intn(len(users))]
		u.do(randomAct(r))
		for _, v := range users {
			v.right(t)
		}
	}
}
