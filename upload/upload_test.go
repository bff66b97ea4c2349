package upload_test

import (
	"maps"
	"math"
	"math/rand"
	"slices"
	"strconv"
	"strings"
	"testing"
	"unsafe"

	"hallmark/api"
	"hallmark/blob"
	"hallmark/disk"
	"hallmark/table"
	"hallmark/upload"
)

func TestExample(t *testing.T) { // P13.1, P13.2
	x := empty(t, 1000)
	x.starts(t, "a", 9, 1)
	must(t, x.u.Patch(1, 0, []byte("ab")))
	must(t, x.u.Patch(1, 2, []byte("c")))
	if e := x.u.Patch(1, 2, []byte("d")); e != api.ErrOffset {
		t.Errorf("Patch: %d", e)
	}
	x.shows(t, map[int]upload.Session{1: {Repo: "a", Until: 9, Size: 3}})
	must(t, x.u.Finish(1, sum("abc")))
	if !x.s.Whole(sum("abc")) {
		t.Error("the store has no abc")
	}
	if s, e := x.u.Look(1); s != (upload.Session{}) || e != api.ErrNone {
		t.Errorf("Look: %v, %d", s, e)
	}
	if id, e := x.u.Start("A", 9); id != 0 || e != api.ErrName {
		t.Errorf("Start: %d, %d", id, e)
	}
	if k := upload.Key(1); k != "u/00000001" {
		t.Errorf("Key: %q", k)
	}
}

func TestKey(t *testing.T) { // P13.1: any number
	r := rand.New(rand.NewSource(131))
	l := []int{math.MinInt, -1 << 32, -1, 0, 1, 9, 10, 255, 256, 1<<31 - 1, 1 << 31, 1<<32 - 1, 1 << 32, 1<<32 + 1, math.MaxInt}
	for range 300 {
		l = append(l, r.Int()-r.Int())
	}
	for _, id := range l {
		if got := upload.Key(id); got != key(id) {
			t.Errorf("Key(%d): %q", id, got)
		}
	}
}

// busy is a place with uploads of each sort: 1 in a, of abc, until 5; 3 in b/c, of nothing, until 7; and 7 in a, of xy, until 5. Other layers have something, too.
func busy(t *testing.T) place {
	t.Helper()
	return laid(t, 1<<12, contents{key(1): "abc", key(3): "", key(7): "xy", file("old"): "old", "x": "x"}, busyValues())
}

func busyValues() contents {
	return contents{"u": next(8), key(1): open("a", 5), key(3): open("b/c", 7), key(7): open("a", 5), "k": "v", "u.": "w", "u0": ""}
}

func busySessions() map[int]upload.Session {
	return map[int]upload.Session{1: {Repo: "a", Until: 5, Size: 3}, 3: {Repo: "b/c", Until: 7}, 7: {Repo: "a", Until: 5, Size: 2}}
}

func begins(t *testing.T, begin func(t *testing.T) place) func() place {
	return func() place { return begin(t) }
}

func TestStart(t *testing.T) { // P13.1
	x := empty(t, 1<<16)
	files, values, want := contents{}, contents{}, map[int]upload.Session{}
	for i, y := range []struct {
		repo  string
		until int
	}{{"a", 9}, {"a", 9}, {"a/b-c", 0}, {strings.Repeat("r", api.MaxRepo), 1}, {"z", api.MaxTime}, {"0", 1 << 33}} {
		id := i + 1
		x.starts(t, y.repo, y.until, id)
		files = files.and(key(id), "")
		values = values.and(key(id), open(y.repo, y.until)).and("u", next(id+1))
		want[id] = upload.Session{Repo: y.repo, Until: y.until}
		x.holds(t, files, values)
		x.shows(t, want)
	}
	y := opened(t, x.d)
	y.shows(t, want)
	y.starts(t, "a", 9, 7)
}

// startSteps are the steps of a Start.
func startSteps(id int, repo string, until int) deed {
	return func(x *place) api.Errno {
		if e := x.d.Create(key(id)); e != api.OK {
			return e
		}
		e := x.t.Apply(set(key(id), open(repo, until)), set("u", next(id+1)))
		if e == api.OK {
			return api.OK
		}
		if failed := x.d.Remove(key(id)); failed != api.OK {
			return failed
		}
		return e
	}
}

func TestStartSteps(t *testing.T) { // P13.1
	alike(t, func() place { return empty(t, 1000) }, start("a", 9), startSteps(1, "a", 9))
	alike(t, begins(t, busy), start("b", 0), startSteps(8, "b", 0))
	// The file that is to be made is there: somebody else's.
	alike(t, func() place { x := empty(t, 1000); must(t, x.d.Create(key(1))); return x }, start("a", 9), startSteps(1, "a", 9))
}

func TestStartOnFullDisk(t *testing.T) { // P13.1: the file is removed again, and the id isn't used
	record := 8 + 1 + (1 + 1 + 10 + 1 + 10) + (1 + 1 + 1 + 1 + 8)
	for room := range record {
		alike(t, func() place { return empty(t, room) }, start("a", 9), startSteps(1, "a", 9))
		x := empty(t, room)
		for range 3 {
			if id, e := x.u.Start("a", 9); id != 0 || e != api.ErrFull {
				t.Fatalf("room %d: Start: %d, %d", room, id, e)
			}
			if got := x.files(t); len(got) != 0 {
				t.Fatalf("room %d: %q", room, got)
			}
			x.shows(t, nil)
		}
	}
	x := empty(t, record)
	must(t, x.d.Create("more"))
	must(t, x.d.Append("more", []byte("x")))
	if id, e := x.u.Start("a", 9); id != 0 || e != api.ErrFull {
		t.Errorf("Start: %d, %d", id, e)
	}
	must(t, x.d.Remove("more"))
	x.starts(t, "a", 9, 1)
}

func TestStartAmongManyFiles(t *testing.T) { // P13.1: what could not be made is not removed
	files := contents{}
	for i := range api.MaxFiles - 2 {
		files["f"+strconv.Itoa(i)] = ""
	}
	x := laid(t, 1000, files, nil)
	x.starts(t, "a", 9, 1)
	for _, fuse := range []int{-1, 0, 9} {
		must(t, x.d.Fuse(fuse))
		if id, e := x.u.Start("a", 9); id != 0 || e != api.ErrFull || x.d.Loose() != 0 || x.d.Down() {
			t.Errorf("Start: %d, %d", id, e)
		}
	}
	must(t, x.d.Fuse(-1))
	must(t, x.d.Remove("f0"))
	x.starts(t, "a", 9, 2)
}

func TestStartErrors(t *testing.T) { // P13.1, R2: the first one that the chapter lists
	long := strings.Repeat("r", api.MaxRepo+1)
	for _, spent := range []bool{false, true} {
		for _, down := range []bool{false, true} {
			begin := func() place {
				x := laid(t, 1000, nil, contents{"u": next(4)})
				if spent {
					x = laid(t, 1000, nil, contents{"u": next(1 << 32)})
				}
				if down {
					x.off(t)
				}
				return x
			}
			for _, repo := range []string{"", "A", "a/", "a//b", "a:b", "a ", "a\x00", long} {
				for _, until := range []int{math.MinInt, -1, 0, api.MaxTime, api.MaxTime + 1, math.MaxInt} {
					x := begin()
					if id, e := x.u.Start(repo, until); id != 0 || e != api.ErrName {
						t.Errorf("Start(%q, %d): %d, %d", repo, until, id, e)
					}
				}
			}
			for _, until := range []int{math.MinInt, -1 << 40, -1, api.MaxTime + 1, 1 << 41, math.MaxInt} {
				x := begin()
				if id, e := x.u.Start("a", until); id != 0 || e != api.ErrArg {
					t.Errorf("Start(%d): %d, %d", until, id, e)
				}
			}
			x := begin()
			want := api.OK
			if spent {
				want = api.ErrLimit
			} else if down {
				want = api.ErrDown
			}
			if id, e := x.u.Start("a", api.MaxTime); e != want || (id != 4) != (e != api.OK) {
				t.Errorf("Start: %d, %d, not %d", id, e, want)
			}
		}
	}
	refuses(t, begins(t, busy), start("A", 9), api.ErrName)
	refuses(t, begins(t, busy), start("a", -1), api.ErrArg)
}

func TestStartOfTheLastIds(t *testing.T) { // P13.1: ids up to 2^32 - 1
	x := laid(t, 1000, nil, contents{"u": next(1<<32 - 2)})
	x.starts(t, "a", 9, 1<<32-2)
	x.starts(t, "b", 8, 1<<32-1)
	values := contents{"u": next(1 << 32), key(1<<32 - 2): open("a", 9), key(1<<32 - 1): open("b", 8)}
	for range 3 {
		if id, e := x.u.Start("a", 9); id != 0 || e != api.ErrLimit {
			t.Errorf("Start: %d, %d", id, e)
		}
		x.holds(t, contents{"u/fffffffe": "", "u/ffffffff": ""}, values)
		x = opened(t, x.d)
	}
	must(t, x.u.Cancel(1<<32-1))
	refuses(t, func() place { return laid(t, 1000, nil, contents{"u": next(1 << 32)}) }, start("a", 9), api.ErrLimit)
	if id, e := x.u.Start("a", 9); id != 0 || e != api.ErrLimit {
		t.Errorf("Start: %d, %d", id, e)
	}
}

func TestIdsAreNotUsedAgain(t *testing.T) { // P13.1: also of uploads that ended, and when everything is opened again
	x := empty(t, 4000)
	for id := 1; id < 30; id += 3 {
		x.starts(t, "a", 9, id)
		x.starts(t, "a", 9, id+1)
		must(t, x.u.Finish(id+1, sum("")))
		must(t, x.u.Cancel(id))
		x.starts(t, "a", 9, id+2)
		x = opened(t, x.d)
		x.shows(t, map[int]upload.Session{id + 2: {Repo: "a", Until: 9}})
		must(t, x.u.Cancel(id+2))
	}
}

func TestPatch(t *testing.T) { // P13.1
	x := empty(t, 3<<20)
	x.starts(t, "a", 9, 1)
	x.starts(t, "b", 8, 2)
	parts := []string{"", "a", "", "bc", "\x00\xff", strings.Repeat("x", 63), strings.Repeat("y", 64), strings.Repeat("z", 70000)}
	one, two := "", ""
	for i, p := range parts {
		x.patches(t, 1, p)
		one += p
		if i%2 == 1 {
			x.patches(t, 2, p)
			two += p
		}
		x.shows(t, map[int]upload.Session{1: {Repo: "a", Until: 9, Size: len(one)}, 2: {Repo: "b", Until: 8, Size: len(two)}})
		x.holds(t, contents{key(1): one, key(2): two}, contents{"u": next(3), key(1): open("a", 9), key(2): open("b", 8)})
	}
	y := opened(t, x.d)
	y.shows(t, map[int]upload.Session{1: {Repo: "a", Until: 9, Size: len(one)}, 2: {Repo: "b", Until: 8, Size: len(two)}})
	y.patches(t, 1, "more")
	must(t, y.u.Finish(1, sum(one+"more")))
	must(t, y.u.Finish(2, sum(two)))
	y.holds(t, contents{file(one + "more"): one + "more", file(two): two}, contents{"u": next(3)})
}

func TestPatchSteps(t *testing.T) { // P13.1
	for _, p := range []string{"", "d", "defg"} {
		alike(t, begins(t, busy), patch(1, 3, p), inOrder(appends(key(1), p), syncs))
		alike(t, begins(t, busy), patch(3, 0, p), inOrder(appends(key(3), p), syncs))
	}
}

func TestPatchOffsets(t *testing.T) { // P13.1
	for _, down := range []bool{false, true} {
		x := busy(t)
		if down {
			x.off(t)
		}
		for id, s := range busySessions() {
			for _, at := range []int{math.MinInt, -1 << 32, -1, 0, 1, 2, 3, 4, 1 << 20, 1 << 32, 1<<32 + s.Size, math.MaxInt} {
				for _, p := range []string{"", "p", strings.Repeat("p", 1<<20+1)} {
					if e := x.u.Patch(id, at, []byte(p)); at != s.Size && e != api.ErrOffset {
						t.Errorf("Patch(%d, %d): %d", id, at, e)
					} else if at == s.Size && len(p) > 9 && e != api.ErrLimit {
						t.Errorf("Patch(%d, %d): %d", id, at, e)
					} else if at == s.Size && len(p) < 9 && down && e != api.ErrDown {
						t.Errorf("Patch(%d, %d): %d", id, at, e)
					}
					if down {
						x.shows(t, busySessions())
					} else if x.u.Cancel(id) == api.OK {
						x = busy(t)
					}
				}
			}
		}
	}
	refuses(t, begins(t, busy), patch(1, 2, "d"), api.ErrOffset)
	refuses(t, begins(t, busy), patch(3, 1, ""), api.ErrOffset)
}

func TestPatchLimit(t *testing.T) { // P13.1: MaxBlob bytes in all
	for _, sizes := range [][]int{{}, {1}, {1 << 19, 1 << 18}, {1<<20 - 1}, {1 << 20}} {
		x := empty(t, 3<<20)
		x.starts(t, "a", 9, 1)
		all := ""
		for _, n := range sizes {
			x.patches(t, 1, strings.Repeat("q", n))
			all += strings.Repeat("q", n)
		}
		for _, y := range []place{x, opened(t, x.d)} {
			for _, over := range []int{1, 2, 1 << 20} {
				if e := y.u.Patch(1, len(all), make([]byte, 1<<20-len(all)+over)); e != api.ErrLimit {
					t.Errorf("Patch: %d", e)
				}
			}
		}
		x.patches(t, 1, strings.Repeat("r", 1<<20-len(all)))
		all += strings.Repeat("r", 1<<20-len(all))
		if e := x.u.Patch(1, 1<<20, []byte("s")); e != api.ErrLimit {
			t.Errorf("Patch: %d", e)
		}
		x.patches(t, 1, "")
		must(t, x.u.Finish(1, sum(all)))
		x.holds(t, contents{file(all): all}, contents{"u": next(2)})
	}
	refuses(t, begins(t, busy), patch(1, 3, strings.Repeat("p", 1<<20-2)), api.ErrLimit)
}

func TestGreatFile(t *testing.T) { // P13.1: a file of more bytes than a Patch can have made
	great := strings.Repeat("g", 1<<20+1)
	x := laid(t, 3<<20, contents{key(1): great}, contents{key(1): open("a", 9)})
	x.shows(t, map[int]upload.Session{1: {Repo: "a", Until: 9, Size: 1<<20 + 1}})
	for _, p := range []string{"", "p"} {
		if e := x.u.Patch(1, len(great), []byte(p)); e != api.ErrLimit {
			t.Errorf("Patch: %d", e)
		}
	}
	must(t, x.u.Finish(1, sum(great)))
	x.holds(t, contents{file(great): great}, contents{})
}

func TestPatchOnFullDisk(t *testing.T) { // P13.1, P13.3: to the last byte, and nothing is changed
	x := busy(t)
	room := x.d.Used() + 4
	begin := func() place {
		return laid(t, room, contents{key(1): "abc", key(3): "", key(7): "xy", file("old"): "old", "x": "x"}, busyValues())
	}
	for _, p := range []string{"12345", "123456"} {
		refuses(t, begin, patch(1, 3, p), api.ErrFull)
		y := begin()
		for range 3 {
			if e := y.u.Patch(1, 3, []byte(p)); e != api.ErrFull {
				t.Errorf("Patch: %d", e)
			}
			y.shows(t, busySessions())
		}
		y.patches(t, 1, "12", "34", "")
		if e := y.u.Patch(1, 7, []byte("5")); e != api.ErrFull {
			t.Errorf("Patch: %d", e)
		}
	}
}

func TestNoSuchUpload(t *testing.T) { // P13.1, P13.2: ahead of what else is wrong
	for _, down := range []bool{false, true} {
		x := busy(t)
		if down {
			x.off(t)
		}
		for _, id := range []int{math.MinInt, -1 << 32, 1 - 1<<32, -1, 0, 2, 4, 6, 8, 1<<32 - 1, 1 << 32, 1<<32 + 1, 1<<32 + 3, math.MaxInt} {
			for _, at := range []int{-1, 0, 3} {
				for _, p := range []string{"", "x", strings.Repeat("p", 1<<20+1)} {
					if e := x.u.Patch(id, at, []byte(p)); e != api.ErrNone {
						t.Errorf("Patch(%d): %d", id, e)
					}
				}
			}
			if s, e := x.u.Look(id); s != (upload.Session{}) || e != api.ErrNone {
				t.Errorf("Look(%d): %v, %d", id, s, e)
			}
			if e := x.u.Finish(id, sum(""), set("", "")); e != api.ErrNone {
				t.Errorf("Finish(%d): %d", id, e)
			}
			if e := x.u.Cancel(id); e != api.ErrNone {
				t.Errorf("Cancel(%d): %d", id, e)
			}
		}
		x.shows(t, busySessions())
	}
	for _, call := range []deed{patch(2, 0, "a"), finish(2, ""), cancel(2), finish(1<<32+1, "abc")} {
		refuses(t, begins(t, busy), call, api.ErrNone)
	}
}

func TestList(t *testing.T) { // P13.1: in ascending order, whatever was begun and ended
	r := rand.New(rand.NewSource(132))
	x := empty(t, 1<<20)
	var ids []int
	for n := range 300 {
		x.starts(t, "a", 9, n+1)
		ids = append(ids, n+1)
		for len(ids) > 0 && r.Intn(3) == 0 {
			i := r.Intn(len(ids))
			must(t, x.u.Cancel(ids[i]))
			ids = slices.Delete(ids, i, i+1)
		}
		if got := x.u.List(); !slices.Equal(got, ids) {
			t.Fatalf("List: %d, not %d", got, ids)
		}
	}
	if got := opened(t, x.d).u.List(); !slices.Equal(got, ids) {
		t.Fatalf("List: %d, not %d", got, ids)
	}
	// As numbers, and not as they are written.
	y := laid(t, 1000, contents{"u/00000000": "", "u/7fffffff": "", "u/80000000": "", "u/ffffffff": "", "u/0000000a": ""},
		contents{"u/00000000": open("a", 1), "u/7fffffff": open("a", 1), "u/80000000": open("a", 1), "u/ffffffff": open("a", 1), "u/0000000a": open("a", 1)})
	if got := y.u.List(); !slices.Equal(got, []int{0, 10, 1<<31 - 1, 1 << 31, 1<<32 - 1}) {
		t.Errorf("List: %d", got)
	}
}

func TestFinish(t *testing.T) { // P13.2
	for _, p := range []string{"", "abc", strings.Repeat("p", 1<<20)} {
		for _, there := range []bool{false, true} {
			x := empty(t, 4<<20)
			if there {
				_, e := x.s.Put([]byte(p))
				must(t, e)
			}
			x.starts(t, "other", 7, 1)
			x.starts(t, "a", 9, 2)
			x.patches(t, 1, "1")
			x.patches(t, 2, p)
			must(t, x.u.Finish(2, sum(p), set("k", "v"), set("l", "1"), gone("k"), set("l", "2")))
			x.holds(t, contents{key(1): "1", file(p): p}, contents{"u": next(3), key(1): open("other", 7), "l": "2"})
			x.shows(t, map[int]upload.Session{1: {Repo: "other", Until: 7, Size: 1}})
			for _, y := range []place{x, opened(t, x.d)} {
				if e := y.u.Finish(2, sum(p)); e != api.ErrNone {
					t.Errorf("Finish: %d", e)
				}
				if e := y.u.Patch(2, len(p), nil); e != api.ErrNone {
					t.Errorf("Patch: %d", e)
				}
				if e := y.u.Cancel(2); e != api.ErrNone {
					t.Errorf("Cancel: %d", e)
				}
			}
		}
	}
}

func TestFinishSteps(t *testing.T) { // P13.2
	there := func() place {
		x := busy(t)
		_, e := x.s.Put([]byte("abc"))
		must(t, e)
		return x
	}
	for _, begin := range []func() place{begins(t, busy), there} {
		for _, more := range [][]table.Change{nil, {set("k", "new")}, {set("m", "1"), gone("k"), set("u.", "2")}, {set(key(1), "no"), gone("nothing")}} {
			all := append(slices.Clip(more), set(key(1), ending("abc", "a", 5)))
			alike(t, begin, finish(1, "abc", more...), inOrder(applies(all...), closes(1, "abc")))
		}
	}
	alike(t, begins(t, busy), finish(3, ""), inOrder(applies(set(key(3), ending("", "b/c", 7))), closes(3, "")))
}

func TestFinishErrors(t *testing.T) { // P13.2, P13.3, R2: nothing is changed
	many := slices.Repeat([]table.Change{set("k", "")}, 256)
	long := make([]byte, api.MaxValue)
	huge := slices.Repeat([]table.Change{{Key: "k", Value: long}}, 4)
	for _, y := range []struct {
		id   int
		p    string
		more []table.Change
		want api.Errno
	}{
		{1, "ab", nil, api.ErrDigest}, {1, "abcd", nil, api.ErrDigest}, {1, "", nil, api.ErrDigest}, {1, "xy", nil, api.ErrDigest}, {3, "abc", nil, api.ErrDigest},
		{1, "ab", many, api.ErrDigest}, {1, "ab", []table.Change{set("", "")}, api.ErrDigest}, {1, "ab", huge, api.ErrDigest},
		{1, "abc", many, api.ErrLimit}, {1, "abc", slices.Repeat(many, 3), api.ErrLimit}, {1, "abc", []table.Change{set("", "")}, api.ErrArg}, {1, "abc", []table.Change{gone(strings.Repeat("k", 321))}, api.ErrArg},
		{1, "abc", huge, api.ErrLimit}, {1, "abc", append(slices.Clip(huge), set("", "")), api.ErrLimit}, {1, "abc", huge[:1], api.ErrFull},
	} {
		refuses(t, begins(t, busy), finish(y.id, y.p, y.more...), y.want)
		x := busy(t)
		before := x.files(t)
		for range 2 {
			if e := x.u.Finish(y.id, sum(y.p), y.more...); e != y.want {
				t.Errorf("Finish(%d, %q): %d, not %d", y.id, y.p, e, y.want)
			}
		}
		x.shows(t, busySessions())
		x.holds(t, before, busyValues())
		x.patches(t, 1, "de")
		must(t, x.u.Finish(1, sum("abcde"), many[1:]...))
	}
	flipped := sum("abc")
	flipped[31] ^= 1
	for _, d := range []api.Digest{{}, flipped} {
		refuses(t, begins(t, busy), func(x *place) api.Errno { return x.u.Finish(1, d) }, api.ErrDigest)
	}
}

func TestFinishWithoutPower(t *testing.T) { // P13.2, R2: what bytes there are is known then, too
	for _, begin := range []func(t *testing.T) place{busy, patched} {
		x := begin(t).off(t)
		for _, p := range []string{"ab", "", "abcd"} {
			if e := x.u.Finish(1, sum(p), set("", "")); e != api.ErrDigest {
				t.Errorf("Finish: %d", e)
			}
		}
		if e := x.u.Finish(1, sum("abc")); e != api.ErrDown {
			t.Errorf("Finish: %d", e)
		}
		x.shows(t, busySessions())
		must(t, x.d.Crash(0, 0))
		opened(t, x.d).shows(t, busySessions())
	}
}

// patched is a busy place, by calls.
func patched(t *testing.T) place {
	t.Helper()
	x := laid(t, 1<<12, nil, nil)
	for id := range 7 {
		s := upload.Session{Repo: "a", Until: 5}
		if id == 2 {
			s = upload.Session{Repo: "b/c", Until: 7}
		}
		x.starts(t, s.Repo, s.Until, id+1)
	}
	for _, id := range []int{2, 4, 5, 6} {
		must(t, x.u.Cancel(id))
	}
	x.patches(t, 1, "a", "", "bc")
	x.patches(t, 7, "x", "y")
	return x
}

func TestFinishOnFullDisk(t *testing.T) { // P13.2: before the Apply nothing is changed; behind it, the key remains until everything is opened again
	p := strings.Repeat("p", 40)
	file1, value1 := contents{key(1): p}, contents{key(1): open("a", 5)}
	size := laid(t, 1<<12, file1, value1).d.Used()
	without := 8 + 1 + (1 + 1 + 10)
	with := without + 1 + len(ending(p, "a", 5))
	for room := size; room < size+with+without+2; room++ {
		begin := func() place { return laid(t, room, file1, value1) }
		alike(t, begin, finish(1, p), inOrder(applies(set(key(1), ending(p, "a", 5))), closes(1, p)))
		x := begin()
		e := x.u.Finish(1, sum(p))
		switch {
		case room < size+with:
			if e != api.ErrFull {
				t.Fatalf("Finish: %d", e)
			}
			x.holds(t, file1, value1)
			x.shows(t, map[int]upload.Session{1: {Repo: "a", Until: 5, Size: len(p)}})
		case room < size+with+without:
			must(t, e)
			x.shows(t, nil)
			left := contents{key(1): ending(p, "a", 5)}
			x.holds(t, contents{file(p): p}, left)
			y := opened(t, x.d)
			y.shows(t, nil)
			y.holds(t, contents{file(p): p}, left)
			// The bytes, once they are a blob, may be gone by the time that there is room again.
			must(t, y.s.Delete(sum(p)))
			opened(t, x.d).holds(t, contents{}, contents{})
		default:
			must(t, e)
			x.holds(t, contents{file(p): p}, contents{})
		}
	}
}

func TestCancel(t *testing.T) { // P13.2
	for id := range busySessions() {
		x := busy(t)
		files, values, want := x.files(t), busyValues(), busySessions()
		must(t, x.u.Cancel(id))
		delete(files, key(id))
		delete(values, key(id))
		delete(want, id)
		x.holds(t, files, values)
		x.shows(t, want)
		y := opened(t, x.d)
		y.holds(t, files, values)
		y.shows(t, want)
		for _, z := range []place{x, y} {
			if e := z.u.Cancel(id); e != api.ErrNone {
				t.Errorf("Cancel: %d", e)
			}
			if e := z.u.Patch(id, 0, nil); e != api.ErrNone {
				t.Errorf("Patch: %d", e)
			}
			z.starts(t, "a", 9, 8)
			must(t, z.u.Cancel(8))
			must(t, z.t.Apply(set("u", next(8))))
		}
	}
}

// cancelSteps are the steps of a Cancel.
func cancelSteps(id int) deed {
	return inOrder(applies(gone(key(id))), removes(key(id)), syncs)
}

func TestCancelSteps(t *testing.T) { // P13.2
	for id := range busySessions() {
		alike(t, begins(t, busy), cancel(id), cancelSteps(id))
	}
}

func TestCancelOnFullDisk(t *testing.T) { // P13.2: nothing is changed
	x := busy(t)
	used := x.d.Used()
	for room := used; room < used+30; room++ {
		begin := func() place {
			return laid(t, room, contents{key(1): "abc", key(3): "", key(7): "xy", file("old"): "old", "x": "x"}, busyValues())
		}
		alike(t, begin, cancel(1), cancelSteps(1))
		alike(t, begin, expire(9, 3), inOrder(cancelSteps(1), cancelSteps(3), cancelSteps(7)))
		y := begin()
		e := y.u.Cancel(1)
		if (e == api.OK) != (room >= used+8+1+12) || e != api.OK && e != api.ErrFull {
			t.Errorf("room %d of %d: %d", room, used, e)
		}
		if e == api.ErrFull {
			y.shows(t, busySessions())
			y.holds(t, x.files(t), busyValues())
		}
	}
}

func TestExpire(t *testing.T) { // P13.2
	for _, y := range []struct{ now, want int }{
		{math.MinInt, 0}, {-1, 0}, {0, 0}, {4, 0}, {5, 2}, {6, 2}, {7, 3}, {8, 3}, {api.MaxTime, 3}, {api.MaxTime + 1, 3}, {math.MaxInt, 3},
	} {
		x := busy(t)
		files, values, want := x.files(t), busyValues(), busySessions()
		for id, s := range busySessions() {
			if s.Until <= y.now {
				delete(files, key(id))
				delete(values, key(id))
				delete(want, id)
			}
		}
		for _, n := range []int{y.want, 0} {
			if got, e := x.u.Expire(y.now); got != n || e != api.OK {
				t.Errorf("Expire(%d): %d, %d, not %d", y.now, got, e, n)
			}
			x.holds(t, files, values)
			x.shows(t, want)
		}
		opened(t, x.d).shows(t, want)
	}
	x := empty(t, 1000)
	for id, until := range []int{api.MaxTime, 0, 1, api.MaxTime - 1} {
		x.starts(t, "a", until, id+1)
	}
	for _, y := range [][2]int{{-1, 0}, {0, 1}, {0, 0}, {1, 1}, {api.MaxTime - 2, 0}, {api.MaxTime - 1, 1}, {api.MaxTime, 1}, {math.MaxInt, 0}} {
		if n, e := x.u.Expire(y[0]); n != y[1] || e != api.OK {
			t.Errorf("Expire(%d): %d, %d", y[0], n, e)
		}
	}
}

func TestExpireSteps(t *testing.T) { // P13.2: in ascending order of the ids
	alike(t, begins(t, busy), expire(5, 2), inOrder(cancelSteps(1), cancelSteps(7)))
	alike(t, begins(t, busy), expire(7, 3), inOrder(cancelSteps(1), cancelSteps(3), cancelSteps(7)))
	refuses(t, begins(t, busy), expire(4, 0), api.OK)
	refuses(t, begins(t, busy), expire(-1, 0), api.OK)
}

func TestExpireIsInterrupted(t *testing.T) { // P13.2: what was cancelled is, and no number is told
	for n := range 13 {
		x := busy(t)
		must(t, x.d.Fuse(n))
		got, e := x.u.Expire(9)
		if (e == api.OK) != (n >= 12) || (got == 3) != (n >= 12) || got != 0 && got != 3 {
			t.Fatalf("%d steps: Expire: %d, %d", n, got, e)
		}
		// The upload is no more as soon as its key isn't.
		if left := x.u.List(); len(left) != 3-min((n+2)/4, 3) {
			t.Fatalf("%d steps: %d are left", n, left)
		}
	}
}

func TestFileIsMissing(t *testing.T) { // the disk's own error, and no bytes are lost silently
	begin := func() place { x := busy(t); must(t, x.d.Remove(key(1))); must(t, x.d.Sync()); return x }
	refuses(t, begin, patch(1, 3, "d"), api.ErrNone)
	refuses(t, begin, finish(1, "abc"), api.ErrNone)
	alike(t, begin, cancel(1), cancelSteps(1))
}

func TestErrorsOfTheDisk(t *testing.T) { // P13.1, P13.2: without power
	x := busy(t).off(t)
	for _, call := range []deed{start("a", 9), patch(1, 3, ""), patch(1, 3, "d"), finish(1, "abc"), cancel(1), expire(5, 0)} {
		if e := call(&x); e != api.ErrDown {
			t.Errorf("%d", e)
		}
		x.shows(t, busySessions())
	}
	if n, e := x.u.Expire(4); n != 0 || e != api.OK {
		t.Errorf("Expire: %d, %d", n, e)
	}
	must(t, x.d.Crash(0, 0))
	y := opened(t, x.d)
	y.shows(t, busySessions())
	y.holds(t, busy(t).files(t), busyValues())
}

func TestNil(t *testing.T) { // R1, R2
	var u *upload.Uploads
	if id, e := u.Start("A", -1); id != 0 || e != api.ErrNil {
		t.Errorf("Start: %d, %d", id, e)
	}
	if e := u.Patch(1, -1, nil); e != api.ErrNil {
		t.Errorf("Patch: %d", e)
	}
	if s, e := u.Look(1); s != (upload.Session{}) || e != api.ErrNil {
		t.Errorf("Look: %v, %d", s, e)
	}
	if l := u.List(); len(l) != 0 {
		t.Errorf("List: %d", l)
	}
	if e := u.Finish(1, sum(""), set("", "")); e != api.ErrNil {
		t.Errorf("Finish: %d", e)
	}
	if e := u.Cancel(1); e != api.ErrNil {
		t.Errorf("Cancel: %d", e)
	}
	if n, e := u.Expire(9); n != 0 || e != api.ErrNil {
		t.Errorf("Expire: %d, %d", n, e)
	}
	x := bare(t, 1000, nil, contents{"u": "wrong number of bytes"}).off(t)
	for i := range 7 {
		d, s, y := x.d, x.s, x.t
		if i&1 != 0 {
			d = nil
		}
		if i&2 != 0 {
			s = nil
		}
		if i&4 != 0 {
			y = nil
		}
		want := api.ErrNil
		if i == 0 {
			want = api.ErrBroken
		}
		if u, e := upload.Open(d, s, y); u != nil || e != want {
			t.Errorf("Open, %d: %v, %d", i, u, e)
		}
	}
	if u, e := upload.Open(nil, nil, nil); u != nil || e != api.ErrNil {
		t.Errorf("Open: %v, %d", u, e)
	}
}

// everything is each call once.
func everything(u *upload.Uploads) {
	u.Start("a", 9)
	u.Patch(1, 0, []byte("a"))
	u.Patch(0, 0, []byte("a"))
	u.Look(0)
	u.List()
	u.Finish(1, sum("a"), set("a", "b"))
	u.Finish(0, sum(""))
	u.Cancel(0)
	u.Start("a", 9)
	u.Expire(9)
}

func TestOtherObjectsPanicNowhere(t *testing.T) { // R1: objects that their packages didn't make
	everything(new(upload.Uploads))
	x := busy(t)
	z := *x.u
	everything(&z)
	everything(x.u)
	everything(&z)
	for i := range 8 {
		y := busy(t)
		if i&1 != 0 {
			y.d = new(disk.Disk)
		}
		if i&2 != 0 {
			y.s = new(blob.Store)
		}
		if i&4 != 0 {
			y.t = new(table.Table)
		}
		if u, e := upload.Open(y.d, y.s, y.t); e == api.OK {
			everything(u)
		} else if u != nil {
			t.Errorf("Open: %v, %d", u, e)
		}
	}
}

func TestUploadsKeepNothing(t *testing.T) { // R3
	x := empty(t, 1000)
	repo := []byte("repo")
	if id, e := x.u.Start(unsafe.String(&repo[0], len(repo)), 9); id != 1 || e != api.OK {
		t.Fatalf("Start: %d, %d", id, e)
	}
	copy(repo, "????")
	p := []byte("value and more")
	must(t, x.u.Patch(1, 0, p[:5]))
	if string(p) != "value and more" {
		t.Errorf("Patch changed its argument: %q", p)
	}
	copy(p, "??????????????")
	x.starts(t, "b", 8, 2)
	want := map[int]upload.Session{1: {Repo: "repo", Until: 9, Size: 5}, 2: {Repo: "b", Until: 8}}
	x.shows(t, want)
	l := x.u.List()
	l = l[:cap(l)]
	clear(l)
	s, e := x.u.Look(1)
	must(t, e)
	s.Size, s.Until = 77, 77
	x.shows(t, want)
	if again, _ := x.u.Look(1); unsafe.StringData(again.Repo) == unsafe.StringData(s.Repo) {
		t.Error("two answers share memory")
	}
	changes := []table.Change{set("k", "v"), set("l", "w"), set("spare", "s")}
	must(t, x.u.Finish(1, sum("value"), changes[:2]...))
	if changes[2].Key != "spare" || string(changes[2].Value) != "s" || changes[2].Gone || changes[0].Key != "k" || string(changes[1].Value) != "w" {
		t.Errorf("Finish changed its arguments: %v", changes)
	}
	changes[0].Value[0] = '?'
	x.holds(t, contents{file("value"): "value", key(2): ""}, contents{"u": next(3), key(2): open("b", 8), "k": "v", "l": "w"})
}

func TestUploadsAreApart(t *testing.T) { // R5
	x, y := busy(t), busy(t)
	x.patches(t, 1, "d")
	must(t, x.u.Cancel(3))
	x.starts(t, "z", 1, 8)
	y.shows(t, busySessions())
	y.holds(t, busy(t).files(t), busyValues())
	must(t, y.u.Finish(1, sum("abc")))
	must(t, x.u.Finish(1, sum("abcd")))
	if !maps.Equal(y.values(), contents{"u": next(8), key(3): open("b/c", 7), key(7): open("a", 5), "k": "v", "u.": "w", "u0": ""}) {
		t.Errorf("%q", y.values())
	}
}
