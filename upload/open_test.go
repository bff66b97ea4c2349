package upload_test

import (
	"encoding/binary"
	"math"
	"math/rand"
	"regexp"
	"slices"
	"strings"
	"testing"

	"hallmark/api"
	"hallmark/disk"
	"hallmark/upload"
)

func TestOpenOfNothing(t *testing.T) { // P13.1
	for _, files := range []contents{nil, {"x": "x", "u": "u", "u.": "", "u0": "", "U/00000001": "", "a/u/00000001": "", file("abc"): "abc"}} {
		for _, values := range []contents{nil, {"k": "v", "U/": "", "v": "", "u.": "", "u0": "", "u ": ""}} {
			begin := func() place { return bare(t, 1000, files, values) }
			refuses(t, begin, opens, api.OK)
			x := begin()
			must(t, x.open())
			x.shows(t, nil)
			if files == nil {
				files = contents{}
			}
			x.holds(t, files, values.and("u", next(2)).without("u"))
			x.starts(t, "a", 9, 1)
		}
	}
}

// without is these contents but one.
func (c contents) without(name string) contents {
	c = c.and(name, "")
	delete(c, name)
	return c
}

func TestOpen(t *testing.T) { // P13.1: any four bytes are an id, be it used already or not
	repo := strings.Repeat("r", api.MaxRepo)
	values := contents{
		"u": next(5), "u/00000000": open("a", 0), "u/00000001": open("a-b/c", api.MaxTime), "u/00000005": open(repo, 1), "u/0000000a": open("a", 1<<39), "u/abcdef09": open("0", 256), "u/ffffffff": open("z", 9),
	}
	files := contents{"u/00000000": "", "u/00000001": "1", "u/00000005": "12345", "u/0000000a": "a", "u/abcdef09": strings.Repeat("q", 1<<20), "u/ffffffff": "z"}
	x := laid(t, 3<<20, files, values)
	x.shows(t, map[int]upload.Session{
		0: {Repo: "a"}, 1: {Repo: "a-b/c", Until: api.MaxTime, Size: 1}, 5: {Repo: repo, Until: 1, Size: 5}, 10: {Repo: "a", Until: 1 << 39, Size: 1}, 0xabcdef09: {Repo: "0", Until: 256, Size: 1 << 20}, 1<<32 - 1: {Repo: "z", Until: 9, Size: 1},
	})
	x.holds(t, files, values)
	refuses(t, func() place { return bare(t, 3<<20, files, values) }, opens, api.OK)
	if id, e := x.u.Start("a", 9); id != 0 || e != api.ErrTwice {
		t.Errorf("Start: %d, %d", id, e)
	}
	must(t, x.u.Cancel(5))
	x.starts(t, "a", 9, 5)
	x.patches(t, 1, "2")
	must(t, x.u.Finish(1, sum("12")))
	must(t, x.u.Finish(0, sum("")))
	must(t, x.u.Finish(1<<32-1, sum("z")))
	must(t, x.u.Finish(0xabcdef09, sum(strings.Repeat("q", 1<<20))))
	if n, e := x.u.Expire(api.MaxTime); n != 2 || e != api.OK {
		t.Errorf("Expire: %d, %d", n, e)
	}
}

func TestOpenOfTheNextId(t *testing.T) { // P13.1: a number from 1 to 2^32 in at most eight bytes
	numbers := []uint64{0, 1, 2, 255, 256, 1<<31 - 1, 1 << 31, 1<<32 - 1, 1 << 32, 1<<32 + 1, 1 << 33, 1 << 40, 1 << 63, math.MaxUint64}
	for _, n := range numbers {
		eight := binary.BigEndian.AppendUint64(nil, n)
		for skip := range 9 {
			v := string(eight[skip:])
			m := n
			if skip > 0 {
				m &= 1<<(8*(8-skip)) - 1
			}
			for _, v := range []string{v, "\x00" + v, v + "\x00"} {
				if len(v) > len(eight)-skip && len(v) <= 8 {
					continue
				}
				x := bare(t, 1000, nil, contents{"u": v})
				if len(v) > 8 || m < 1 || m > 1<<32 {
					refuses(t, func() place { return bare(t, 1000, nil, contents{"u": v}) }, opens, api.ErrBroken)
					continue
				}
				must(t, x.open())
				if m < 1<<32 {
					x.starts(t, "a", 9, int(m))
					x.holds(t, contents{key(int(m)): ""}, contents{"u": next(int(m) + 1), key(int(m)): open("a", 9)})
				} else if id, e := x.u.Start("a", 9); id != 0 || e != api.ErrLimit {
					t.Errorf("Start: %d, %d", id, e)
				}
			}
		}
	}
}

func TestOpenOfWrongKeys(t *testing.T) { // P13.1
	for _, k := range []string{
		"u/", "u/0", "u/0000000", "u/000000001", "u/0000000001", "u/0000", "u/000001", "u/0000000A", "u/0000000g", "u/0000000 ", "u/ 0000001", "u/0x000001", "u//0000001", "u//00000001", "u/u/00000001",
		"u/00000001/", "u/00000001+", "u/\x00\x00\x00\x01", "u/-0000001", "u/\xff", "u/" + strings.Repeat("0", 318),
	} {
		for _, v := range []string{open("a", 9), ending("abc", "a", 9)} {
			files := contents{}
			if disk.IsName(k) {
				files[k] = "abc"
			}
			for _, values := range []contents{{k: v}, {k: v, "u/00000000": ending("old", "a", 9), "u/ffffffff": ending("old", "a", 9)}} {
				refuses(t, func() place { return bare(t, 2000, files.and("u/00000000", "old").and("u/7", "orphan"), values) }, opens, api.ErrBroken)
			}
		}
	}
}

var repoForm = regexp.MustCompile(`^[a-z0-9]+((\.|_|__|-+)[a-z0-9]+)*(/[a-z0-9]+((\.|_|__|-+)[a-z0-9]+)*)*$`)

// sound is the oracle of what the value of an upload is.
func sound(v string) bool {
	if strings.HasPrefix(v, "\x20") && len(v) > 32 {
		v = "\x00" + v[33:]
	}
	if !strings.HasPrefix(v, "\x00") || len(v) < 9 {
		return false
	}
	until, repo := binary.BigEndian.Uint64([]byte(v[1:9])), v[9:]
	return until <= 1<<40 && len(repo) <= 128 && repoForm.MatchString(repo) && !strings.HasSuffix(repo, "\n")
}

// someValues are values of an upload, most of which are wrong.
func someValues() []string {
	repo := strings.Repeat("r", 128)
	l := []string{"", "\x00", "\x20", "a", "\x00a", "\x20a", open("", 9), open("A", 9), open("a/", 9), open("a ", 9), open("a\n", 9), open("a\x00", 9), open(repo, 9), open(repo+"r", 9), open(repo+"/r", 9), ending("abc", "", 9), ending("abc", repo+"r", 9)}
	for _, until := range []int{math.MinInt, -1, 0, 1, 1<<40 - 1, 1 << 40, 1<<40 + 1, 1 << 41, 1 << 48, 1 << 56, math.MaxInt} {
		l = append(l, open("a", until), ending("abc", "a", until))
	}
	for _, v := range []string{open("ab/c", 258), ending("abc", "ab/c", 258)} {
		for i := range v {
			l = append(l, v[:i], v[i:], v[:i]+v[i+1:], v[:i]+"\x00"+v[i:], v[:i]+"a"+v[i:])
			for _, c := range []byte{1, 0x20, 0x80, 0xff} {
				b := []byte(v)
				b[i] ^= c
				l = append(l, string(b))
			}
		}
		for c := range 256 {
			l = append(l, string([]byte{byte(c)})+v[1:])
		}
		l = append(l, "\x80"+v, "\xa0\x00"+v[1:], "\x80\x00"+v[1:], v+v)
	}
	for n := range 50 {
		l = append(l, strings.Repeat("\x00", n), strings.Repeat("a", n), "\x00"+strings.Repeat("\x00", 8)+strings.Repeat("a", n), "\x20"+strings.Repeat("a", n), "\x20"+strings.Repeat("\x00", n)+"a", string([]byte{byte(n)})+strings.Repeat("\x00", n+8)+"a")
	}
	return l
}

func TestOpenOfValues(t *testing.T) { // P13.1
	good := 0
	files, values := contents{key(0): "zero"}, contents{key(0): open("z", 1)}
	for _, v := range someValues() {
		x := bare(t, 1000, files.and(key(1), "abc"), values.and(key(1), v))
		want := api.ErrBroken
		if sound(v) {
			good++
			want = api.OK
			if v[0] == 32 && v[1:33] != ending("abc", "a", 9)[1:33] {
				want = api.ErrDigest
			}
		}
		if e := x.open(); e != want {
			t.Fatalf("Open of %q: %d, not %d", v, e, want)
		}
		zero := upload.Session{Repo: "z", Until: 1, Size: 4}
		switch {
		case want != api.OK:
			x.holds(t, files.and(key(1), "abc"), values.and(key(1), v))
		case v[0] == 0:
			x.shows(t, map[int]upload.Session{0: zero, 1: {Repo: v[9:], Until: int(binary.BigEndian.Uint64([]byte(v[1:9]))), Size: 3}})
			x.holds(t, files.and(key(1), "abc"), values.and(key(1), v))
		default:
			x.shows(t, map[int]upload.Session{0: zero})
			x.holds(t, files.and(file("abc"), "abc"), values)
		}
	}
	if good < 20 {
		t.Errorf("only %d values are sound", good)
	}
}

func TestOpenChangesNothingBroken(t *testing.T) { // P13.1, R2: wherever among the others what is broken stands
	values := contents{key(1): ending("abc", "a", 9), key(5): open("a", 9), key(8): ending("xy", "a", 9), "u": next(9)}
	files := contents{key(1): "abc", key(5): "12", key(8): "other", key(77): "orphan", "u/x": ""}
	begin := func(files, values contents) func() place {
		return func() place { return bare(t, 4000, files, values) }
	}
	for _, id := range []int{0, 3, 6, 9, 1<<32 - 1} {
		refuses(t, begin(files, values.and(key(id), "wrong")), opens, api.ErrBroken)
		// The file of an upload that is not ending is not there.
		refuses(t, begin(files.without(key(id)), values.and(key(id), open("a", 9))), opens, api.ErrBroken)
	}
	refuses(t, begin(files, values.and("u", "")), opens, api.ErrBroken)
	refuses(t, begin(files.without(key(5)), values), opens, api.ErrBroken)
	refuses(t, begin(files, values.and("u/z", open("a", 9))), opens, api.ErrBroken)
}

func TestOpenWithoutPower(t *testing.T) { // P13.1, R2: the size of a file can't be asked then, either
	for _, y := range []struct {
		values contents
		want   api.Errno
	}{
		{nil, api.ErrDown}, {contents{"u": next(4)}, api.ErrDown}, {contents{key(1): ending("abc", "a", 9)}, api.ErrDown}, {contents{key(3): ending("x", "a", 9), key(1): ending("abc", "a", 9)}, api.ErrDown},
		{contents{key(1): open("a", 9)}, api.ErrBroken}, {contents{key(1): open("a", 9), key(2): ending("abc", "a", 9)}, api.ErrBroken}, {contents{key(1): ending("abc", "a", 9), key(2): open("a", 9)}, api.ErrBroken},
		{contents{"u": "\x00"}, api.ErrBroken}, {contents{"u/": ""}, api.ErrBroken}, {contents{key(1): "wrong"}, api.ErrBroken}, {contents{key(1): ending("abc", "a", 9), key(2): "wrong"}, api.ErrBroken},
	} {
		x := bare(t, 1000, contents{key(1): "abc", key(2): "abc"}, y.values).off(t)
		if e := x.open(); e != y.want {
			t.Errorf("Open of %q: %d, not %d", y.values, e, y.want)
		}
	}
}

func TestOpenCloses(t *testing.T) { // P13.1: what is ending, in the order of the keys
	values := contents{"u": next(9), key(0xa): ending("ten", "a", 1), key(0x9): ending("nine", "a", 1), key(2): ending("two", "b", 2), key(3): open("c", 3), key(0xffffffff): ending("last", "a", 0), "k": "v"}
	files := contents{key(0xa): "ten", key(0x9): "nine", key(3): "three", key(0xffffffff): "last", file("two"): "two", file("nine"): "nine"}
	begin := func() place { return bare(t, 1<<12, files, values) }
	alike(t, begin, opens, inOrder(closes(2, "two"), closes(9, "nine"), closes(10, "ten"), closes(1<<32-1, "last")))
	x := begin()
	must(t, x.open())
	for range 2 {
		x.shows(t, map[int]upload.Session{3: {Repo: "c", Until: 3, Size: 5}})
		x.holds(t, contents{key(3): "three", file("two"): "two", file("nine"): "nine", file("ten"): "ten", file("last"): "last"}, contents{"u": next(9), key(3): open("c", 3), "k": "v"})
		x = opened(t, x.d)
	}
	x.starts(t, "a", 1, 9)
}

func TestOpenRemovesFilesWithoutKeys(t *testing.T) { // P13.1: in order, and syncs if there was one
	values := contents{key(1): open("a", 9), key(4): ending("four", "a", 9)}
	files := contents{key(1): "1", key(4): "four", "u": "u", "u.": "", "u0": "", "t+": "", "U/x": "", file("x"): "x"}
	kept := contents{key(1): "1", file("four"): "four", "u": "u", "u.": "", "u0": "", "t+": "", "U/x": "", file("x"): "x"}
	for _, left := range [][]string{nil, {"u/"}, {key(0)}, {key(2)}, {key(0), key(2), key(3), key(1<<32 - 1)}, {"u/+", "u/00000001+", "u/0000000A", "u/x", "u/\xff" + strings.Repeat("n", 157)}} {
		all := files
		steps := []deed{closes(4, "four")}
		for _, name := range slices.Sorted(slices.Values(left)) {
			all = all.and(name, "left")
			steps = append(steps, removes(name))
		}
		if len(left) > 0 {
			steps = append(steps, syncs)
		}
		begin := func() place { return bare(t, 1<<12, all, values) }
		alike(t, begin, opens, inOrder(steps...))
		x := begin()
		must(t, x.open())
		x.holds(t, kept, contents{key(1): open("a", 9)})
		x.shows(t, map[int]upload.Session{1: {Repo: "a", Until: 9, Size: 1}})
	}
}

func TestOpenErrors(t *testing.T) { // P13.1: of the store, from the first step that has one
	values := contents{key(1): ending("abc", "a", 9), key(2): ending("xy", "a", 9), key(3): ending("z", "a", 9)}
	for _, files := range []contents{{key(1): "abc", key(2): "wrong", key(3): "z"}, {key(1): "abc", key(2): "", key(3): "wrong"}, {key(1): "abc", key(2): "xyz", key(9): "left"}} {
		begin := func() place { return bare(t, 1<<12, files, values) }
		alike(t, begin, opens, inOrder(closes(1, "abc"), closes(2, "xy")))
		x := begin()
		if e := x.open(); e != api.ErrDigest {
			t.Errorf("Open: %d", e)
		}
	}
}

func TestOpenOnFullDisk(t *testing.T) { // P13.1: the keys of what is closed may remain
	values := contents{key(1): ending("abc", "a", 9), key(2): ending("xy", "a", 9), key(3): open("b", 8)}
	files := contents{key(1): "abc", key(2): "xy", key(3): "z", key(4): "left"}
	used := bare(t, 1<<12, files, values).d.Used()
	record := 8 + 1 + 1 + 1 + 10
	for room := used; room < used+2*record+2; room++ {
		begin := func() place { return bare(t, room, files, values) }
		alike(t, begin, opens, inOrder(closes(1, "abc"), closes(2, "xy"), removes(key(4)), syncs))
		x := begin()
		must(t, x.open())
		x.shows(t, map[int]upload.Session{3: {Repo: "b", Until: 8, Size: 1}})
		left := contents{key(2): values[key(2)], key(3): open("b", 8)}
		switch {
		case room < used+record:
			left = values
		case room >= used+2*record:
			left = left.without(key(2))
		}
		x.holds(t, contents{file("abc"): "abc", file("xy"): "xy", key(3): "z"}, left)
	}
}

func TestOpenOfRandomTables(t *testing.T) { // P13.1
	r := rand.New(rand.NewSource(133))
	texts := []string{"", "a", "bc", "def"}
	for range 500 {
		files, values, wantFiles, wantValues := contents{}, contents{}, contents{}, contents{}
		want := map[int]upload.Session{}
		for range r.Intn(6) {
			id, p := r.Intn(20), texts[r.Intn(len(texts))]
			if r.Intn(3) == 0 {
				id = int(r.Uint32())
			}
			if _, there := files[key(id)]; there {
				continue
			}
			files[key(id)] = p
			switch r.Intn(4) {
			case 0:
				values[key(id)] = ending(p, "a", id)
				wantFiles[file(p)] = p
			case 1:
				// Left behind by a crash.
			default:
				values[key(id)], wantValues[key(id)] = open("a/b", id), open("a/b", id)
				wantFiles[key(id)] = p
				want[id] = upload.Session{Repo: "a/b", Until: id, Size: len(p)}
			}
		}
		x := laid(t, 1<<13, files, values)
		x.shows(t, want)
		x.holds(t, wantFiles, wantValues)
	}
}
