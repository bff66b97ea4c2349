package manifest_test

import (
	"encoding/hex"
	stdjson "encoding/json"
	"fmt"
	"math/rand"
	"regexp"
	"slices"
	"strings"
	"testing"
	"unsafe"

	"hallmark/api"
	"hallmark/json"
	"hallmark/manifest"
)

// The oracle lists all that is wrong with a tree of values, by a table that says for each name which rule its value follows; the first is the input's error. Inputs without errors it reads with the library's own package. It uses nothing of the package that it checks but the type Doc.

const (
	image = "application/vnd.oci.image.manifest.v1+json"
	index = "application/vnd.oci.image.index.v1+json"
)

var (
	mediaForm = regexp.MustCompile(`^[A-Za-z0-9][-A-Za-z0-9!#$&^_.+]*/[A-Za-z0-9][-A-Za-z0-9!#$&^_.+]*$`)
	sumForm   = regexp.MustCompile(`^sha256:[0-9a-f]{64}$`)
)

// rules says of each object's members which rules their values follow.
var rules = map[string]map[string]string{
	"document": {
		"schemaVersion": "two", "mediaType": "document type", "artifactType": "media type", "config": "descriptor",
		"layers": "descriptors", "manifests": "descriptors", "subject": "descriptor", "annotations": "notes",
	},
	"descriptor": {"mediaType": "media type", "digest": "digest", "size": "size", "annotations": "notes"},
}

// kinds says of which kind of JSON a value is that follows a rule.
var kinds = map[string]int{
	"two": 3, "size": 3, "document type": 4, "media type": 4, "digest": 4, "text": 4, "descriptors": 5, "document": 6, "descriptor": 6, "notes": 6,
}

// faults are all errors of a value that must follow a rule, in the order in which they are found.
func faults(rule string, v json.Value) (l []api.Errno) {
	if v.Kind != kinds[rule] {
		return []api.Errno{api.ErrManifest}
	}
	wrong := func(e api.Errno, is bool) {
		if is {
			l = append(l, e)
		}
	}
	switch rule {
	case "two":
		wrong(api.ErrManifest, v.Num != 2)
	case "size":
		wrong(api.ErrSize, v.Num < 0 || v.Num > 1099511627776)
	case "document type":
		wrong(api.ErrMedia, v.Text != image && v.Text != index)
	case "media type":
		wrong(api.ErrMedia, len(v.Text) > 127 || !mediaForm.MatchString(v.Text))
	case "digest":
		wrong(api.ErrDigest, !sumForm.MatchString(v.Text))
	case "descriptors":
		wrong(api.ErrLimit, len(v.Kids) > 64)
		for _, k := range v.Kids {
			l = append(l, faults("descriptor", k)...)
		}
	case "notes":
		wrong(api.ErrLimit, len(v.Kids) > 32)
		for _, k := range v.Kids {
			l = append(l, faults("text", k)...)
		}
	case "document", "descriptor":
		for i, n := range v.Names {
			r, known := rules[rule][n]
			if wrong(api.ErrManifest, !known); known {
				l = append(l, faults(r, v.Kids[i])...)
			}
		}
		wrong(api.ErrManifest, !isWhole(rule, v))
	}
	return l
}

// isWhole reports whether an object has the members that it must have, and none that it must not.
func isWhole(rule string, v json.Value) bool {
	m, _ := v.Field("mediaType")
	var must []string
	for _, n := range v.Names {
		if n != "artifactType" && n != "subject" && n != "annotations" {
			must = append(must, n)
		}
	}
	slices.Sort(must)
	switch got := strings.Join(must, " "); {
	case rule == "descriptor":
		return got == "digest mediaType size"
	case m.Text == image:
		return got == "config layers mediaType schemaVersion"
	case m.Text == index:
		return got == "manifests mediaType schemaVersion"
	}
	return false
}

// judged is the error of an input.
func judged(s string) api.Errno {
	v, _, e := json.Parse([]byte(s))
	if e != api.OK {
		return e
	}
	return append(faults("document", v), api.OK)[0]
}

// pairs are annotations in their order.
type pairs []api.Note

func (p *pairs) UnmarshalJSON(b []byte) error {
	d := stdjson.NewDecoder(strings.NewReader(string(b)))
	d.Token()
	for d.More() {
		k, _ := d.Token()
		v, _ := d.Token()
		*p = append(*p, api.Note{Key: k.(string), Value: v.(string)})
	}
	return nil
}

type descText struct {
	MediaType   string
	Digest      string
	Size        int
	Annotations pairs
}

type docText struct {
	MediaType, ArtifactType string
	Config                  descText
	Layers, Manifests       []descText
	Subject                 *descText
	Annotations             pairs
}

func (d descText) desc() api.Desc {
	x := api.Desc{Media: d.MediaType, Size: d.Size, Notes: d.Annotations}
	hex.Decode(x.Digest[:], []byte(strings.TrimPrefix(d.Digest, "sha256:")))
	return x
}

// decoded is the document of an input that has no error.
func decoded(s string) manifest.Doc {
	var x docText
	if err := stdjson.Unmarshal([]byte(s), &x); err != nil {
		panic(err)
	}
	d := manifest.Doc{Media: x.MediaType, Type: x.ArtifactType, Notes: x.Annotations}
	if x.MediaType == image {
		d.Config = x.Config.desc()
	}
	for _, e := range append(x.Layers, x.Manifests...) {
		d.Edges = append(d.Edges, e.desc())
	}
	if x.Subject != nil {
		d.Has, d.Subject = true, x.Subject.desc()
	}
	return d
}

// escapes are the characters that layer 6 doesn't write as they are, each followed by what it writes.
var escapes = strings.NewReplacer(escapePairs()...)

func escapePairs() []string {
	l := []string{`"`, `\"`, `\`, `\\`, "\b", `\b`, "\f", `\f`, "\n", `\n`, "\r", `\r`, "\t", `\t`}
	for c := range 32 {
		if !slices.Contains(l, string(rune(c))) {
			l = append(l, string(rune(c)), fmt.Sprintf(`\u%04x`, c))
		}
	}
	return l
}

// quoted is a text as layer 6 writes it.
func quoted(s string) string { return `"` + escapes.Replace(s) + `"` }

// written is a document as it must be written.
func written(d manifest.Doc) string {
	s := `{"schemaVersion":2,"mediaType":` + quoted(d.Media)
	if d.Type != "" {
		s += `,"artifactType":` + quoted(d.Type)
	}
	var edges []string
	for _, e := range d.Edges {
		edges = append(edges, writtenDesc(e))
	}
	all := "[" + strings.Join(edges, ",") + "]"
	if d.Media == image {
		s += `,"config":` + writtenDesc(d.Config) + `,"layers":` + all
	} else {
		s += `,"manifests":` + all
	}
	if d.Has {
		s += `,"subject":` + writtenDesc(d.Subject)
	}
	return s + writtenNotes(d.Notes) + "}"
}

func writtenDesc(d api.Desc) string {
	return fmt.Sprintf(`{"mediaType":%s,"digest":"sha256:%x","size":%d%s}`, quoted(d.Media), d.Digest[:], d.Size, writtenNotes(d.Notes))
}

func writtenNotes(notes []api.Note) string {
	var l []string
	for _, n := range notes {
		l = append(l, quoted(n.Key)+":"+quoted(n.Value))
	}
	if l == nil {
		return ""
	}
	return `,"annotations":{` + strings.Join(l, ",") + "}"
}

func sameDesc(a, b api.Desc) bool {
	return a.Media == b.Media && a.Digest == b.Digest && a.Size == b.Size && slices.Equal(a.Notes, b.Notes)
}

// same reports whether two documents are alike in every field; nil and empty slices are.
func same(a, b manifest.Doc) bool {
	return a.Media == b.Media && a.Type == b.Type && sameDesc(a.Config, b.Config) && slices.EqualFunc(a.Edges, b.Edges, sameDesc) &&
		sameDesc(a.Subject, b.Subject) && a.Has == b.Has && slices.Equal(a.Notes, b.Notes)
}

// sketch says of something what a test's report needs of it.
func sketch(x any) string {
	s := fmt.Sprintf("%+v", x)
	return s[:min(len(s), 300)]
}

// span is the memory of a slice with its spare capacity, or that of a text.
type span struct{ from, to uintptr }

func spanOf[T any](l []T) span {
	var t T
	from := uintptr(unsafe.Pointer(unsafe.SliceData(l)))
	return span{from, from + uintptr(cap(l))*unsafe.Sizeof(t)}
}

func spanOfText(s string) span {
	from := uintptr(unsafe.Pointer(unsafe.StringData(s)))
	return span{from, from + uintptr(len(s))}
}

// spans are the memories of all slices of descriptors, and the memories of their texts.
func spans(descs []api.Desc) (slices, texts []span) {
	slices = append(slices, spanOf(descs))
	for _, d := range descs {
		s, t := noteSpans(d.Notes)
		slices, texts = append(slices, s), append(append(texts, t...), spanOfText(d.Media))
	}
	return slices, texts
}

func noteSpans(notes []api.Note) (slice span, texts []span) {
	for _, n := range notes {
		texts = append(texts, spanOfText(n.Key), spanOfText(n.Value))
	}
	return spanOf(notes), texts
}

// docSpans are those of all of a document.
func docSpans(d manifest.Doc) (slices, texts []span) {
	slices, texts = spans(d.Edges)
	for _, x := range []api.Desc{d.Config, d.Subject, {Media: d.Type, Notes: d.Notes}} {
		s, t := noteSpans(x.Notes)
		slices, texts = append(slices, s), append(append(texts, t...), spanOfText(x.Media))
	}
	return slices, append(texts, spanOfText(d.Media))
}

// shared reports whether two of these memories have a byte in common.
func shared(l ...span) bool {
	l = slices.DeleteFunc(slices.Clone(l), func(s span) bool { return s.from == s.to })
	slices.SortFunc(l, func(a, b span) int {
		if a.from < b.from {
			return -1
		}
		return 1
	})
	for i := range len(l) - 1 {
		if l[i].to > l[i+1].from {
			return true
		}
	}
	return false
}

// Building blocks of documents.

// marked is a digest of which every byte tells its place and n.
func marked(n int) (d api.Digest) {
	for i := range d {
		d[i] = byte(8*i + 7 + n)
	}
	return d
}

// desc is a descriptor that tells n, with notes of these keys.
func desc(n int, keys ...string) api.Desc {
	return api.Desc{Media: fmt.Sprintf("a/b%d", n), Digest: marked(n), Size: n, Notes: notesOf(keys...)}
}

func notesOf(keys ...string) (l []api.Note) {
	for i, k := range keys {
		l = append(l, api.Note{Key: k, Value: fmt.Sprintf("v%d", i)})
	}
	return l
}

// manyKeys are n keys of three bytes.
func manyKeys(n int) (l []string) {
	for i := range n {
		l = append(l, fmt.Sprint(100+i))
	}
	return l
}

func manyDescs(n int, keys ...string) (l []api.Desc) {
	for i := range n {
		l = append(l, desc(i, keys...))
	}
	return l
}

// fullImage and fullIndex have everything that a document may have.
func fullImage() manifest.Doc {
	return manifest.Doc{
		Media: image, Type: "t/x", Config: desc(1, "c"), Edges: []api.Desc{desc(2, "d", "e"), desc(1<<40, "")}, Subject: desc(0, "s"), Has: true, Notes: notesOf("b", "a", "é"),
	}
}

func fullIndex() manifest.Doc {
	return manifest.Doc{
		Media: index, Type: "t/x", Edges: []api.Desc{desc(3, "d"), desc(3, "d"), desc(4)}, Subject: desc(5), Has: true, Notes: notesOf("z"),
	}
}

func randomDoc(r *rand.Rand) manifest.Doc {
	d := manifest.Doc{Media: []string{image, index}[r.Intn(2)], Notes: randomNotes(r)}
	if r.Intn(2) == 0 {
		d.Type = randomMedia(r)
	}
	if d.Media == image {
		d.Config = randomDesc(r)
	}
	for range r.Intn(4) {
		d.Edges = append(d.Edges, randomDesc(r))
	}
	if r.Intn(2) == 0 {
		d.Has, d.Subject = true, randomDesc(r)
	}
	return d
}

func randomDesc(r *rand.Rand) api.Desc {
	d := api.Desc{Media: randomMedia(r), Size: r.Intn(1 << r.Intn(41)), Notes: randomNotes(r)}
	r.Read(d.Digest[:])
	return d
}

func randomMedia(r *rand.Rand) string {
	return []string{"a/b", "A0!#$&-^_.+/z9!#$&-^_.+", image, index, "application/octet-stream", "a/" + strings.Repeat("b", 125)}[r.Intn(6)]
}

func randomNotes(r *rand.Rand) (l []api.Note) {
	for i := range r.Intn(4) {
		l = append(l, api.Note{Key: fmt.Sprint(randomText(r), i), Value: randomText(r)})
	}
	return l
}

func randomText(r *rand.Rand) string {
	all := []rune("aZ09 /\"\\\b\f\n\r\t\x00\x01\x1f\x7f\u0080é\u07ff\u0800\u2028\ud7ff\ue000\ufffd\uffff\U00010000\U0001f600\U0010ffff")
	var t []rune
	for range r.Intn(6) {
		t = append(t, all[r.Intn(len(all))])
	}
	return string(t)
}

// treeOf is the tree of a text that layer 6 accepts.
func treeOf(t *testing.T, s string) json.Value {
	t.Helper()
	v, _, e := json.Parse([]byte(s))
	if e != api.OK {
		t.Fatalf("json.Parse(%.100q): %d", s, e)
	}
	return v
}

// textOf is the text of a tree that layer 6 accepts.
func textOf(t *testing.T, v json.Value) string {
	t.Helper()
	b, e := json.Write(v)
	if e != api.OK {
		t.Fatalf("json.Write(%s): %d", sketch(v), e)
	}
	return string(b)
}

func TestOracle(t *testing.T) { // the examples of the chapter hold for what the other tests hold the package against
	for s, want := range map[string]api.Errno{
		`{"schemaVersion":2,"mediaType":"` + index + `","manifests":[]}`:       api.OK,
		`{"schemaVersion":2,"mediaType":"` + index + `","layers":[]}`:          api.ErrManifest,
		`{"schemaVersion":1,"mediaType":"` + index + `","manifests":[]}`:       api.ErrManifest,
		`{"x":0,"schemaVersion":2,"mediaType":"` + index + `","manifests":[]}`: api.ErrManifest,
		"[]": api.ErrManifest,
		"[":  api.ErrShort,
	} {
		if e := judged(s); e != want {
			t.Errorf("%q: %d", s, e)
		}
	}
	for _, d := range []manifest.Doc{fullImage(), fullIndex()} {
		if e := judged(written(d)); e != api.OK || !same(decoded(written(d)), d) {
			t.Errorf("%d, %s", e, sketch(decoded(written(d))))
		}
	}
}
