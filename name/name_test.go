package name_test

import (
	"math/rand"
	"regexp"
	"strings"
	"testing"

	"hallmark/api"
	"hallmark/name"
)

// The oracle says with expressions of the library what the package says by walking over the text.

var (
	repoForm  = regexp.MustCompile(`^[a-z0-9]+((\.|_|__|-+)[a-z0-9]+)*(/[a-z0-9]+((\.|_|__|-+)[a-z0-9]+)*)*$`)
	tagForm   = regexp.MustCompile(`^[A-Za-z0-9_][A-Za-z0-9_.-]*$`)
	mediaForm = regexp.MustCompile(`^[A-Za-z0-9][-A-Za-z0-9!#$&^_.+]*/[A-Za-z0-9][-A-Za-z0-9!#$&^_.+]*$`)
)

func isRepo(s string) bool  { return len(s) <= 128 && repoForm.MatchString(s) }
func isTag(s string) bool   { return len(s) <= 128 && tagForm.MatchString(s) }
func isMedia(s string) bool { return len(s) <= 127 && mediaForm.MatchString(s) }

// judge is one of the three questions, and the oracle's answer to it.
type judge struct {
	ask, oracle func(string) bool
	title       string
}

var (
	repos  = judge{name.IsRepo, isRepo, "IsRepo"}
	tags   = judge{name.IsTag, isTag, "IsTag"}
	medias = judge{name.IsMedia, isMedia, "IsMedia"}
)

// answers reports it unless all of these texts are answered so.
func (j judge) answers(t *testing.T, want bool, texts ...string) {
	t.Helper()
	for _, s := range texts {
		if got := j.ask(s); got != want {
			t.Errorf("%s(%q) = %v", j.title, s, got)
		}
		if j.oracle(s) != want {
			t.Errorf("the oracle of %s is wrong about %q", j.title, s)
		}
	}
}

// agrees reports it unless the package answers as the oracle does.
func (j judge) agrees(t *testing.T, s string) {
	t.Helper()
	if got := j.ask(s); got != j.oracle(s) {
		t.Errorf("%s(%q) = %v", j.title, s, got)
	}
}

// each calls use with all joins of at most so many of the pieces.
func each(pieces []string, most int, use func(string)) {
	var grow func(s string, left int)
	grow = func(s string, left int) {
		use(s)
		if left == 0 {
			return
		}
		for _, p := range pieces {
			grow(s+p, left-1)
		}
	}
	grow("", most)
}

// some is n pieces chosen by r, joined.
func some(r *rand.Rand, pieces []string, n int) string {
	var b strings.Builder
	for range n {
		b.WriteString(pieces[r.Intn(len(pieces))])
	}
	return b.String()
}

// altered checks texts that differ from s in one byte, are shorter by one or longer by one.
func (j judge) altered(t *testing.T, s string) {
	t.Helper()
	for i := range len(s) + 1 {
		for c := range 256 {
			j.agrees(t, s[:i]+string([]byte{byte(c)})+s[i:])
			if i < len(s) {
				j.agrees(t, s[:i]+string([]byte{byte(c)})+s[i+1:])
			}
		}
		if i < len(s) {
			j.agrees(t, s[:i]+s[i+1:])
		}
	}
}

// limited checks that s, which is as described but may be too long, is accepted up to so many bytes.
func (j judge) limited(t *testing.T, most int, s string) {
	t.Helper()
	j.answers(t, len(s) <= most, s)
}

// strange are characters that some call letters, digits, separators or blanks, and bytes that are no characters.
func strange() []string {
	return []string{"é", "ß", "ı", "\u017f", "\u212a", "а", "１", "٣", "ａ", "／", "－", "．", "＿", "：", "\u00a0", "\u00ad", "\u200b", "\u2010", "\ufeff", "\ufffd", "日", "😀",
		"\x80", "\xff", "\xc3", "\xc0\xaf", "\xed\xa0\x80", "\x00", "\n", "\r\n", "\t", " ", "\x7f", "%", "%2f", "\\", "\"", "'", "*", "?", "~", ",", ";", "="}
}

func TestIsRepo(t *testing.T) { // P7.1
	repos.answers(t, true, "a", "0", "z", "9", "az09", "a/b", "a/b/c/0", "a.b", "a_b", "a__b", "a-b", "a--b", "a------b", "a/b-c",
		"a.b_c__d-e---f", "1.2.3", "library/ubuntu", "a/b.c/d__e/f--g", "0/0", "sha256", "a/sha256")
	repos.answers(t, false, "", "A", "a/", "/a", "/", "a//b", "a-", "-a", "-", "a.", ".a", ".", "..", "a_", "_a", "a__", "__a", "a___b", "a____b", "a..b", "a...b",
		"a._b", "a_.b", "a-_b", "a_-b", "a.-b", "a-.b", "a__-b", "a-__b", "a__.b", "a.__b", "a_._b", "a-/b", "a/-b", "a./b", "a/.b", "a_/b", "a/_b", "a__/b", "a/__b", "a/../b", "a/./b",
		"a/b/", "a/b//c", "aB", "a/B", "Z", "a:b", "a:", "a@b", "a@", "a+b", "a!b", "a b", " a", "a ", "a\n", "\na", "a\x00", "a\\b", "a/b-", "a-b-", "a--", "--a")
}

func TestIsRepoOfShortTexts(t *testing.T) { // P7.1
	each([]string{"a", "9", ".", "_", "-", "/"}, 7, func(s string) { repos.agrees(t, s) })
	each([]string{"z", "0", ".", "_", "-", "/", "A", ":", "@", "é", " "}, 5, func(s string) { repos.agrees(t, s) })
}

func TestIsRepoOfAlteredTexts(t *testing.T) { // P7.1
	for _, s := range []string{"a", "a/b", "a.b-c__d_e/f", "ab--cd/e__f0", strings.Repeat("a", 127), strings.Repeat("a", 128), strings.Repeat("a.b/", 31) + "c.d"} {
		repos.altered(t, s)
	}
}

func TestIsRepoLimit(t *testing.T) { // P7.1
	for n := 1; n < 140; n++ {
		repos.limited(t, 128, strings.Repeat("a", n))
		repos.limited(t, 128, strings.Repeat("0", n))
	}
	for n := 100; n < 140; n++ {
		for _, sep := range []string{"-", "--", "_", "__", ".", "/"} {
			rest := n - len(sep)
			repos.limited(t, 128, "a"+sep+strings.Repeat("b", rest-1))
			repos.limited(t, 128, strings.Repeat("b", rest-1)+sep+"a")
			repos.limited(t, 128, strings.Repeat("a"+sep, n/(1+len(sep)))+strings.Repeat("b", 1+n%(1+len(sep))))
		}
		repos.limited(t, 128, "a"+strings.Repeat("-", n-2)+"b")
	}
	repos.answers(t, false, strings.Repeat("a/", 1<<20)+"a", strings.Repeat("a", 1<<22), "a"+strings.Repeat("-", 1<<22)+"b", strings.Repeat("_", 1<<20), strings.Repeat("/", 129))
}

func TestIsRepoOfStrangeTexts(t *testing.T) { // P7.1
	for _, c := range strange() {
		repos.answers(t, false, c, "a"+c, c+"a", "a"+c+"a", "a/"+c, c+"/a", "a-"+c+"-a")
	}
}

func TestIsRepoOfRandomTexts(t *testing.T) { // P7.1
	r := rand.New(rand.NewSource(71))
	good := 0
	for range 200000 {
		s := some(r, []string{"a", "bc", "d0", "9", "x", "a", "b", "c", ".", "_", "__", "-", "--", "/", "/a", "A", ""}, 1+r.Intn(12))
		if repos.agrees(t, s); isRepo(s) {
			good++
		}
	}
	if good < 1000 {
		t.Errorf("%d names among the random texts", good)
	}
}

func TestIsTag(t *testing.T) { // P7.1
	tags.answers(t, true, "a", "z", "A", "Z", "0", "9", "_", "v1", "latest", "1.0", "1.0.", "a-", "a.", "a_", "__", "_.-", "_-", "_.", "a..b", "a--b", "a.-_", "V1.2-RC_3", "0-")
	tags.answers(t, false, "", ".", "-", ".a", "-a", "..", "--", ".-", "-.", "._", "-_", "a:", ":a", "a:b", "a@b", "a/b", "/", "a+b", "a b", " a", "a ", "a\n", "\na", "a\x00", "a!", "a~", "a,b", "é", "aé")
}

func TestIsTagOfShortTexts(t *testing.T) { // P7.1
	each([]string{"a", "Z", "0", "_", ".", "-", "/", ":", "+", "é"}, 5, func(s string) { tags.agrees(t, s) })
}

func TestIsTagOfAlteredTexts(t *testing.T) { // P7.1
	for _, s := range []string{"", "a", "_", "v1.2-x_Y", strings.Repeat("a", 127), strings.Repeat("_.-", 42) + "ab"} {
		tags.altered(t, s)
	}
}

func TestIsTagLimit(t *testing.T) { // P7.1
	for n := 1; n < 140; n++ {
		for _, c := range []string{"a", "A", "0", "_"} {
			tags.limited(t, 128, strings.Repeat(c, n))
			tags.limited(t, 128, c+strings.Repeat(".", n-1))
			tags.limited(t, 128, c+strings.Repeat("-", n-1))
		}
	}
	tags.answers(t, false, strings.Repeat("a", 1<<22), strings.Repeat("é", 1<<20))
}

func TestIsTagOfStrangeTexts(t *testing.T) { // P7.1
	for _, c := range strange() {
		tags.answers(t, false, c, "a"+c, c+"a", "a"+c+"a", "_"+c)
	}
}

func TestIsMedia(t *testing.T) { // P7.1
	medias.answers(t, true, "application/vnd.x+json", "a/b", "A/Z", "0/9", "z/a", "9/0", "a!#$&-^_.+/b!#$&-^_.+", "a+/b+", "a-/b.",
		"application/vnd.oci.image.manifest.v1+json", "application/vnd.oci.image.index.v1+json", "text/plain", "a..b/c--d", "A0!/0A_")
	medias.answers(t, false, "", "/", "a", "a/", "/b", "a/b/c", "a/b/", "/a/b", "a//b", "//", "+a/b", "a/+b", ".a/b", "a/.b", "-a/b", "a/-b", "_a/b", "a/_b", "!a/b", "a/!b", "#a/b", "a/#b",
		"$a/b", "a/$b", "&a/b", "a/&b", "^a/b", "a/^b", "a/b;c=d", "a/b c", "a /b", " a/b", "a/b ", "a/b\n", "a/*", "*/*", "a:b/c", "a/b:c", "a@b/c", "a'/b", "a/b%", "a/b=", "a,b/c", "a`/b", "a~/b", "a|/b", "a\\b", "é/a", "a/é", "a/bé")
}

func TestIsMediaOfShortTexts(t *testing.T) { // P7.1
	each([]string{"a", "Z", "0", "/", "!", "+", "_", ".", "*"}, 6, func(s string) { medias.agrees(t, s) })
}

func TestIsMediaOfAlteredTexts(t *testing.T) { // P7.1
	for _, s := range []string{"a/b", "ab/cd", "a!#$&-^_.+/b!#$&-^_.+", "application/vnd.x+json", "a/" + strings.Repeat("b", 124), strings.Repeat("b", 125) + "/a"} {
		medias.altered(t, s)
	}
}

func TestIsMediaLimit(t *testing.T) { // P7.1
	for n := 3; n < 140; n++ {
		medias.limited(t, 127, "a/"+strings.Repeat("b", n-2))
		medias.limited(t, 127, strings.Repeat("b", n-2)+"/a")
		medias.limited(t, 127, "a/b"+strings.Repeat("+", n-3))
		medias.limited(t, 127, strings.Repeat("A", n/2)+"/"+strings.Repeat("0", n-1-n/2))
	}
	medias.answers(t, false, strings.Repeat("a", 1<<21)+"/"+strings.Repeat("a", 1<<21), strings.Repeat("a", 127), strings.Repeat("/", 1<<20), strings.Repeat("/a", 64))
}

func TestIsMediaOfStrangeTexts(t *testing.T) { // P7.1
	for _, c := range strange() {
		medias.answers(t, false, c, c+"/"+c, "a/"+c, c+"/a", "a/b"+c, "a"+c+"/b", "a/"+c+"b", c+"a/b")
	}
}

func TestLimitsAreThoseOfApi(t *testing.T) { // P7.1: the oracle's numbers are the chapter's
	if api.MaxRepo != 128 || api.MaxTag != 128 || api.MaxMedia != 127 {
		t.Error("the limits differ")
	}
}
