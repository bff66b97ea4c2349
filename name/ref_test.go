package name_test

import (
	"encoding/hex"
	"fmt"
	"math/rand"
	"regexp"
	"strings"
	"testing"
	"unsafe"

	"hallmark/api"
	"hallmark/digest"
	"hallmark/name"
)

var sumForm = regexp.MustCompile(`^sha256:([0-9a-f]{64})$`)

// parse is the oracle of Parse: it divides s by the places of its marks.
func parse(s string) (name.Ref, api.Errno) {
	var r name.Ref
	r.Repo = s
	sum := ""
	if i := strings.IndexByte(s, '@'); i >= 0 {
		r.Repo, sum, r.Pinned = s[:i], s[i+1:], true
	}
	tagged := false
	if i := strings.IndexByte(r.Repo, ':'); i >= 0 {
		r.Repo, r.Tag, tagged = r.Repo[:i], r.Repo[i+1:], true
	}
	m := sumForm.FindStringSubmatch(sum)
	switch {
	case !isRepo(r.Repo):
		return name.Ref{}, api.ErrName
	case tagged && !isTag(r.Tag):
		return name.Ref{}, api.ErrTag
	case r.Pinned && m == nil:
		return name.Ref{}, api.ErrDigest
	}
	if r.Pinned {
		hex.Decode(r.Digest[:], []byte(m[1]))
	}
	return r, api.OK
}

// agrees reports it unless s is parsed as the oracle does, and shown again as it was.
func agrees(t *testing.T, s string) (accepted bool) {
	t.Helper()
	r, e := name.Parse(s)
	want, wantE := parse(s)
	if r != want || e != wantE {
		t.Errorf("Parse(%q) = %+v, %d, not %+v, %d", s, r, e, want, wantE)
	}
	if e != api.OK {
		return false
	}
	if again, e := name.Show(r); again != s || e != api.OK {
		t.Errorf("Show of Parse(%q) = %q, %d", s, again, e)
	}
	return true
}

// parses reports it unless s is parsed as r.
func parses(t *testing.T, s string, r name.Ref) {
	t.Helper()
	if got, e := name.Parse(s); got != r || e != api.OK {
		t.Errorf("Parse(%q) = %+v, %d", s, got, e)
	}
	agrees(t, s)
}

// fails reports it unless all of these texts have this error.
func fails(t *testing.T, want api.Errno, texts ...string) {
	t.Helper()
	for _, s := range texts {
		if r, e := name.Parse(s); r != (name.Ref{}) || e != want {
			t.Errorf("Parse(%q) = %+v, %d, not %d", s, r, e, want)
		}
		agrees(t, s)
	}
}

// shows reports it unless r is shown as s, or with this error.
func shows(t *testing.T, r name.Ref, s string, want api.Errno) {
	t.Helper()
	if got, e := name.Show(r); got != s || e != want {
		t.Errorf("Show(%+v) = %q, %d, not %q, %d", r, got, e, s, want)
	}
}

// marked is a digest of which every byte tells its place.
func marked() (d api.Digest) {
	for i := range d {
		d[i] = byte(8*i + 7)
	}
	return d
}

const markedText = "sha256:070f171f272f373f474f575f676f777f878f979fa7afb7bfc7cfd7dfe7eff7ff"

func TestParse(t *testing.T) { // P7.2
	d, zeros := marked(), "sha256:"+strings.Repeat("0", 64)
	parses(t, "a/b-c:v1", name.Ref{Repo: "a/b-c", Tag: "v1"})
	parses(t, "a", name.Ref{Repo: "a"})
	parses(t, "a--b", name.Ref{Repo: "a--b"})
	parses(t, "a__b", name.Ref{Repo: "a__b"})
	parses(t, "a@"+markedText, name.Ref{Repo: "a", Pinned: true, Digest: d})
	parses(t, "a/b:_.-@"+markedText, name.Ref{Repo: "a/b", Tag: "_.-", Pinned: true, Digest: d})
	parses(t, "a@"+zeros, name.Ref{Repo: "a", Pinned: true})
	parses(t, "a:A@"+zeros, name.Ref{Repo: "a", Tag: "A", Pinned: true})
	parses(t, "sha256:00", name.Ref{Repo: "sha256", Tag: "00"})
	parses(t, markedText, name.Ref{Repo: "sha256", Tag: markedText[7:]})
	parses(t, "localhost:5000", name.Ref{Repo: "localhost", Tag: "5000"})
}

func TestParseErrors(t *testing.T) { // P7.2
	fails(t, api.ErrName, "", "A", "a//b", "a-", "a___b", ":", "@", ":a", "@a", ":a@b", "A:v1", "a/:v1", "a/@"+markedText, "@"+markedText, " a", "a ", "a/b/", "é")
	fails(t, api.ErrTag, "a:", "a::", "a:.", "a:-", "a:-b", "a:b:c", "a:b:", "a::b", "a:b/c", "localhost:5000/a", "a:b ", "a: b", "a:@"+markedText, "a:b:c@"+markedText, "a:é")
	fails(t, api.ErrDigest, "a@", "a@b", "a@b:c", "a@@", "a@"+markedText[7:], "a@"+markedText+"@", "a@@"+markedText, "a@"+markedText+"@"+markedText, "a@"+markedText+":v1", "a@"+markedText+" ", "a@ "+markedText,
		"a@"+markedText[:70], "a@"+markedText+"0", "a@"+strings.ToUpper(markedText), "a@sha256:"+strings.ToUpper(markedText[7:]), "a@sha512:"+markedText[7:], "a:v1@", "a:v1@sha256:", "a@sha256:"+strings.Repeat("g", 64))
}

func TestParseErrorsInTheirOrder(t *testing.T) { // P7.2
	fails(t, api.ErrName, "A:@", "A:.@b", "a-:.", "a-@b", "a//b:x:y@z", ":@", "@:", "A@b:c", "A:v1@b")
	fails(t, api.ErrTag, "a:@", "a:.@", "a:b:c@d", "a:-@sha256:", "a::@@")
	// What follows the first @ is never a tag, nor what follows the first : a name.
	fails(t, api.ErrDigest, "a@:", "a@:v1", "a@b:.", "a:v1@b:.", "a@A", "a@/")
}

func TestParseLimits(t *testing.T) { // P7.2
	full, long := strings.Repeat("a", 128), strings.Repeat("a", 129)
	parses(t, full, name.Ref{Repo: full})
	parses(t, full+":"+full, name.Ref{Repo: full, Tag: full})
	parses(t, full+":"+full+"@"+markedText, name.Ref{Repo: full, Tag: full, Pinned: true, Digest: marked()})
	fails(t, api.ErrName, long, long+":"+full, long+":"+long+"@"+markedText, strings.Repeat("a", 1<<22), strings.Repeat(":", 1<<20), strings.Repeat("@", 1<<20))
	fails(t, api.ErrTag, full+":"+long, full+":"+long+"@"+markedText, "a"+strings.Repeat(":", 1<<20))
	fails(t, api.ErrDigest, full+":"+full+"@"+markedText+"0", "a"+strings.Repeat("@", 1<<20))
}

func TestParseOfShortTexts(t *testing.T) { // P7.2, P7.3
	each([]string{"a", "A", "/", "-", "_", ":", "@"}, 6, func(s string) { agrees(t, s) })
	accepted := 0
	each([]string{"a", "0.b", "V", "-", ":", "@", "@" + markedText, ":_", markedText, "sha256:"}, 4, func(s string) {
		if agrees(t, s) {
			accepted++
		}
	})
	if accepted < 100 {
		t.Errorf("%d references among the short texts", accepted)
	}
}

func TestParseOfAlteredTexts(t *testing.T) { // P7.2, P7.3
	for _, s := range []string{"a", "a:b", "a/b-c:v1", "a@" + markedText, "a.b/c:V_1@" + markedText} {
		for i := range len(s) + 1 {
			for c := range 256 {
				agrees(t, s[:i]+string([]byte{byte(c)})+s[i:])
				if i < len(s) {
					agrees(t, s[:i]+string([]byte{byte(c)})+s[i+1:])
				}
			}
			agrees(t, s[:i])
			agrees(t, s[i:])
			if i < len(s) {
				agrees(t, s[:i]+s[i+1:])
			}
		}
	}
}

func TestShow(t *testing.T) { // P7.2
	d := marked()
	shows(t, name.Ref{Repo: "a"}, "a", api.OK)
	shows(t, name.Ref{Repo: "a/b-c", Tag: "v1"}, "a/b-c:v1", api.OK)
	shows(t, name.Ref{Repo: "a", Pinned: true, Digest: d}, "a@"+markedText, api.OK)
	shows(t, name.Ref{Repo: "a", Tag: "v1", Pinned: true, Digest: d}, "a:v1@"+markedText, api.OK)
	shows(t, name.Ref{Repo: "a", Pinned: true}, "a@sha256:"+strings.Repeat("0", 64), api.OK)
	shows(t, name.Ref{Repo: "a", Digest: d}, "a", api.OK)
	shows(t, name.Ref{Repo: "a", Tag: "v1", Digest: d}, "a:v1", api.OK)
	full := strings.Repeat("a", 128)
	shows(t, name.Ref{Repo: full, Tag: full, Pinned: true, Digest: d}, full+":"+full+"@"+markedText, api.OK)
}

func TestShowErrors(t *testing.T) { // P7.2
	long := strings.Repeat("a", 129)
	for _, pinned := range []bool{false, true} {
		for _, repo := range []string{"", "A", "a-", "a//b", "a___b", "a:b", "a@b", "a ", "é", "\xff", long} {
			for _, tag := range []string{"", "v1", "-", long} {
				shows(t, name.Ref{Repo: repo, Tag: tag, Pinned: pinned, Digest: marked()}, "", api.ErrName)
			}
		}
		for _, tag := range []string{".", "-", "-a", "a:b", "a@b", "a/b", "a ", " ", "é", "\xff", "\x00", long} {
			shows(t, name.Ref{Repo: "a", Tag: tag, Pinned: pinned, Digest: marked()}, "", api.ErrTag)
		}
	}
	shows(t, name.Ref{}, "", api.ErrName)
}

// again reports it unless r, if it has no error, is what its text is parsed as.
func again(t *testing.T, r name.Ref) {
	t.Helper()
	s, e := name.Show(r)
	want := api.OK
	switch {
	case !isRepo(r.Repo):
		want = api.ErrName
	case r.Tag != "" && !isTag(r.Tag):
		want = api.ErrTag
	}
	if e != want || e != api.OK && s != "" {
		t.Errorf("Show(%+v) = %q, %d, not %d", r, s, e, want)
	}
	if e != api.OK {
		return
	}
	if !r.Pinned {
		r.Digest = api.Digest{}
	}
	if got, e := name.Parse(s); got != r || e != api.OK {
		t.Errorf("Parse of the Show of %+v = %+v, %d", r, got, e)
	}
	agrees(t, s)
}

func TestParseOfShow(t *testing.T) { // P7.3
	digests := []api.Digest{{}, marked(), digest.Sum(nil), {31: 1}, {0: 255}}
	tags := []string{"", "a", "_", "v1.0-x_Y", "a.", "0", "-", ".", ":", "@", "a:b", "a@" + markedText, strings.Repeat("z", 128), strings.Repeat("z", 129)}
	each([]string{"a", "0", ".", "_", "-", "/", ":", "@"}, 4, func(repo string) {
		for i, tag := range tags {
			again(t, name.Ref{Repo: repo, Tag: tag, Pinned: i%2 == 0, Digest: digests[i%len(digests)]})
			again(t, name.Ref{Repo: repo, Tag: tag, Pinned: i%2 != 0, Digest: digests[(i+2)%len(digests)]})
		}
	})
}

func TestParseOfShowOfRandomReferences(t *testing.T) { // P7.3
	r := rand.New(rand.NewSource(73))
	for i := range 20000 {
		ref := name.Ref{
			Repo:   some(r, []string{"a", "b0", "9", "c", "d", "e/f", "a-b", "x.y", "a__b", "/", "-", "A"}, 1+r.Intn(8)),
			Tag:    some(r, []string{"a", "V1", "_", "0", "x", ".", "-", "a", "b", "c"}, r.Intn(6)),
			Pinned: r.Intn(2) == 0,
			Digest: digest.Sum(fmt.Append(nil, i)),
		}
		again(t, ref)
	}
}

// overlap reports whether two texts share bytes of memory.
func overlap(a, b string) bool {
	if a == "" || b == "" {
		return false
	}
	i, j := uintptr(unsafe.Pointer(unsafe.StringData(a))), uintptr(unsafe.Pointer(unsafe.StringData(b)))
	return i < j+uintptr(len(b)) && j < i+uintptr(len(a))
}

func TestResultsAreNewMemory(t *testing.T) { // P7.2, R3
	for _, s := range []string{"a", "abc", "abc:def", "abc@" + markedText, "abc:def@" + markedText} {
		s := strings.Clone(s)
		r, e := name.Parse(s)
		if e != api.OK {
			t.Fatalf("Parse(%q): %d", s, e)
		}
		if overlap(r.Repo, s) || overlap(r.Tag, s) || overlap(r.Repo, r.Tag) {
			t.Errorf("Parse(%q) shares memory", s)
		}
		if got, _ := name.Show(r); overlap(got, r.Repo) || overlap(got, r.Tag) {
			t.Errorf("Show(%+v) shares memory", r)
		}
	}
}
