package manifest_test

import (
	"fmt"
	"math"
	"math/rand"
	"slices"
	"strings"
	"testing"

	"hallmark/api"
	"hallmark/json"
	"hallmark/manifest"
)

// writes reports it unless Write answers this text.
func writes(t *testing.T, d manifest.Doc, want string) {
	t.Helper()
	if b, e := manifest.Write(d); e != api.OK || string(b) != want {
		t.Errorf("Write(%s) = %.500q, %d, want %.500q", sketch(d), b, e, want)
	}
}

// writesNot reports it unless Write answers this error alone.
func writesNot(t *testing.T, d manifest.Doc, want api.Errno) {
	t.Helper()
	if b, e := manifest.Write(d); e != want || len(b) > 0 {
		t.Errorf("Write(%s): %d bytes, %d, not %d", sketch(d), len(b), e, want)
	}
}

// returns reports it unless d is written, and read again as it was.
func returns(t *testing.T, d manifest.Doc) {
	t.Helper()
	writes(t, d, written(d))
	accepts(t, written(d), d)
}

func TestWrite(t *testing.T) { // P8.2
	writes(t, manifest.Doc{Media: index}, `{"schemaVersion":2,"mediaType":"application/vnd.oci.image.index.v1+json","manifests":[]}`)
	small := api.Desc{Media: "a/b", Digest: marked(0)}
	writes(t, manifest.Doc{Media: image, Config: small}, `{"schemaVersion":2,"mediaType":"application/vnd.oci.image.manifest.v1+json","config":`+descText0+`,"layers":[]}`)
	writes(t, manifest.Doc{Media: image, Type: "t/x", Config: small, Subject: small, Has: true, Notes: []api.Note{{Key: "k", Value: "v"}}}, textWith("", ""))
	writes(t, manifest.Doc{Media: index, Edges: []api.Desc{small}}, indexWith("", ""))
	full := api.Desc{Media: "a/b", Size: 1 << 40, Notes: []api.Note{{Key: "z", Value: "\x01é"}, {Key: "", Value: ""}, {Key: "\"\\\n", Value: "/"}}}
	text := `{"mediaType":"a/b","digest":"sha256:` + strings.Repeat("0", 64) + `","size":1099511627776,"annotations":{"z":"\u0001é","":"","\"\\\n":"/"}}`
	writes(t, manifest.Doc{Media: image, Type: "a/b", Config: full, Edges: []api.Desc{small, full}, Subject: full, Has: true, Notes: full.Notes},
		`{"schemaVersion":2,"mediaType":"`+image+`","artifactType":"a/b","config":`+text+`,"layers":[`+descText0+","+text+`],"subject":`+text+`,"annotations":{"z":"\u0001é","":"","\"\\\n":"/"}}`)
	writes(t, manifest.Doc{Media: index, Type: "a/b", Edges: []api.Desc{full, small}, Subject: small, Has: true, Notes: full.Notes[:1]},
		`{"schemaVersion":2,"mediaType":"`+index+`","artifactType":"a/b","manifests":[`+text+","+descText0+`],"subject":`+descText0+`,"annotations":{"z":"\u0001é"}}`)
}

// places are the descriptors of a full document that are written, by what changes them.
func places(d *manifest.Doc) []*api.Desc {
	l := []*api.Desc{&d.Subject}
	for i := range d.Edges {
		l = append(l, &d.Edges[i])
	}
	if d.Media == image {
		l = append(l, &d.Config)
	}
	return l
}

// fulls are new full documents.
func fulls() []manifest.Doc { return []manifest.Doc{fullImage(), fullIndex()} }

func TestWriteRefusesMedia(t *testing.T) { // P8.2
	for _, s := range []string{"", "a/b", "application/json", image + " ", index[1:], strings.ToUpper(index), "\xff", "é"} {
		for _, d := range fulls() {
			d.Media = s
			writesNot(t, d, api.ErrArg)
		}
	}
	writesNot(t, manifest.Doc{}, api.ErrArg)
	for _, s := range []string{"a", "a/", "/b", "a/b/c", "+a/b", "a/b ", "é/a", "\xff", "a/" + strings.Repeat("b", 126), strings.Repeat("a", 1<<20)} {
		for _, d := range fulls() {
			d.Type = s
			writesNot(t, d, api.ErrArg)
		}
	}
	for _, s := range []string{"", "a", "a/", "/b", "a/b/c", "+a/b", "a/b ", "é/a", "\xff", "a/" + strings.Repeat("b", 126)} {
		for k := range fulls() {
			for i := range places(&fulls()[k]) {
				d := fulls()[k]
				places(&d)[i].Media = s
				writesNot(t, d, api.ErrArg)
			}
		}
	}
	for _, s := range []string{"0/9", image, index, "A!#$&-^_.+/z", "a/" + strings.Repeat("b", 125)} {
		for _, d := range fulls() {
			d.Type = s
			for _, x := range places(&d) {
				x.Media = s
			}
			returns(t, d)
		}
	}
}

func TestWriteRefusesSizes(t *testing.T) { // P8.2
	for _, n := range []int{-1, 1<<40 + 1, 1 << 53, math.MinInt, math.MaxInt, -(1 << 40)} {
		for k := range fulls() {
			for i := range places(&fulls()[k]) {
				d := fulls()[k]
				places(&d)[i].Size = n
				writesNot(t, d, api.ErrArg)
			}
		}
	}
	for _, n := range []int{0, 1, 1<<40 - 1, 1 << 40} {
		for _, d := range fulls() {
			for _, x := range places(&d) {
				x.Size = n
			}
			returns(t, d)
		}
	}
}

func TestWriteRefusesNumbers(t *testing.T) { // P8.2
	for _, n := range []int{65, 66, 1000, 5000, 1 << 17} {
		for _, d := range fulls() {
			d.Edges = slices.Repeat([]api.Desc{desc(1)}, n)
			writesNot(t, d, api.ErrArg)
		}
	}
	for _, n := range []int{33, 34, 1000, 5000, 1 << 17} {
		for k, d := range fulls() {
			d.Notes = notesOf(manyKeys(n)...)
			writesNot(t, d, api.ErrArg)
			for i := range places(&d) {
				d := fulls()[k]
				places(&d)[i].Notes = notesOf(manyKeys(n)...)
				writesNot(t, d, api.ErrArg)
			}
		}
	}
	// The most of all is fewer values than layer 6 accepts.
	for _, d := range fulls() {
		d.Edges, d.Notes = manyDescs(64), notesOf(manyKeys(32)...)
		for _, x := range places(&d) {
			x.Notes = notesOf(manyKeys(32)...)
		}
		returns(t, d)
	}
}

func TestWriteRefusesNotes(t *testing.T) { // P8.2
	for _, l := range [][]api.Note{
		{{Key: "a"}, {Key: "a"}},
		{{Key: "a", Value: "1"}, {Key: "b"}, {Key: "a", Value: "2"}},
		{{}, {}},
		append(notesOf(manyKeys(31)...), api.Note{Key: "100"}),
		{{Key: "\xff"}},
		{{Value: "\xff"}},
		{{Key: "a", Value: "b\x80"}, {Key: "b"}},
		{{Key: "b"}, {Key: "a\xc3"}},
		{{Key: "\xed\xa0\x80"}},
		{{Value: "\xc0\xaf"}},
		{{Value: strings.Repeat("a", 1<<17) + "\xff"}},
	} {
		for k, d := range fulls() {
			d.Notes = l
			writesNot(t, d, api.ErrArg)
			for i := range places(&d) {
				d := fulls()[k]
				places(&d)[i].Notes = l
				writesNot(t, d, api.ErrArg)
			}
		}
	}
	for _, l := range [][]api.Note{
		{{Key: "a", Value: "a"}, {Key: "A", Value: "a"}, {Key: "", Value: "a"}, {Key: "é"}, {Key: "e\u0301"}, {Key: "a\x00"}},
		{{Key: "schemaVersion", Value: "annotations"}, {Key: "mediaType"}, {Key: "size", Value: "-1"}},
		{{Key: "\ufffd", Value: "\ufffd\U0010ffff\x7f\u2028"}},
	} {
		for _, d := range fulls() {
			d.Notes = l
			for _, x := range places(&d) {
				x.Notes = l
			}
			returns(t, d)
		}
	}
}

func TestWriteLeavesOut(t *testing.T) { // P8.2, P8.4: the Config of an index and the Subject without Has are neither written nor checked
	for _, x := range []api.Desc{desc(1, "a"), {Media: "a/b"}, {Size: 1}, {Media: "\xff", Size: -1, Notes: []api.Note{{Key: "\xff"}, {Key: "\xff"}}}, {Notes: notesOf(manyKeys(5000)...)}, {Notes: []api.Note{{Value: strings.Repeat("a", 1<<17)}}}} {
		d := fullIndex()
		want := written(d)
		d.Config = x
		writes(t, d, want)
		for _, d := range fulls() {
			d.Has, d.Subject = false, api.Desc{}
			want := written(d)
			d.Subject = x
			writes(t, d, want)
		}
	}
	d := manifest.Doc{Media: index, Config: desc(1, "a"), Edges: []api.Desc{desc(2)}, Subject: desc(3, "b")}
	writes(t, d, written(manifest.Doc{Media: index, Edges: []api.Desc{desc(2)}}))
	b, _ := manifest.Write(d)
	accepts(t, string(b), manifest.Doc{Media: index, Edges: []api.Desc{desc(2)}})
	// A zero descriptor that is written is checked.
	writesNot(t, manifest.Doc{Media: image}, api.ErrArg)
	writesNot(t, manifest.Doc{Media: index, Has: true}, api.ErrArg)
	writesNot(t, manifest.Doc{Media: index, Edges: []api.Desc{{}}}, api.ErrArg)
}

func TestWriteLength(t *testing.T) { // P8.2
	for _, d := range fulls() {
		for i := range len(places(&d)) + 1 {
			for _, extra := range []int{-1, 0, 1, 2, 1 << 17} {
				d := fulls()[map[string]int{image: 0, index: 1}[d.Media]]
				notes := &d.Notes
				if i < len(places(&d)) {
					notes = &places(&d)[i].Notes
				}
				*notes = []api.Note{{Key: "k"}}
				(*notes)[0].Value = strings.Repeat("a", 65536-len(written(d))+extra)
				if extra <= 0 {
					returns(t, d)
				} else {
					writesNot(t, d, api.ErrLimit)
				}
			}
		}
	}
	long := manifest.Doc{Media: index, Notes: []api.Note{{Key: strings.Repeat("\x01", 11000)}}}
	writesNot(t, long, api.ErrLimit)
	long.Edges = []api.Desc{{Media: "a/b", Size: -1}}
	writesNot(t, long, api.ErrArg)
	long.Edges = []api.Desc{{Media: "a/b", Notes: []api.Note{{Key: "a"}, {Key: "a"}}}}
	writesNot(t, long, api.ErrArg)
	long.Edges = manyDescs(64, manyKeys(32)...)
	writesNot(t, long, api.ErrLimit)
	long.Edges = manyDescs(65)
	writesNot(t, long, api.ErrArg)
}

func TestWriteIsWriteOfLayer6(t *testing.T) { // P8.2
	for _, d := range fulls() {
		b, _ := manifest.Write(d)
		if again := textOf(t, treeOf(t, string(b))); again != string(b) {
			t.Errorf("%s", b)
		}
	}
}

func TestWriteRandom(t *testing.T) { // P8.2, P8.4
	r := rand.New(rand.NewSource(82))
	for range 3000 {
		returns(t, randomDoc(r))
	}
}

func TestParseThenWrite(t *testing.T) { // P8.4: whatever is accepted comes back
	r := rand.New(rand.NewSource(84))
	for range 1000 {
		d := randomDoc(r)
		v := treeOf(t, written(d))
		r.Shuffle(len(v.Kids), func(i, j int) { swap(v, i, j) })
		got, e := manifest.Parse([]byte(textOf(t, v)))
		if e != api.OK {
			t.Fatal(e)
		}
		writes(t, got, written(d))
	}
}

// spare has l followed by spare capacity that is not l's.
func spare[T any](l []T) []T { return append(slices.Clone(l), slices.Repeat(l[:1], 3)...)[:len(l)] }

func TestWriteKeepsItsArguments(t *testing.T) { // R3
	for _, d := range fulls() {
		d.Edges, d.Notes, d.Edges[0].Notes = spare(d.Edges), spare(d.Notes), spare(d.Edges[0].Notes)
		before := fmt.Sprintf("%+v %+v %+v %+v", d, d.Edges[:cap(d.Edges)], d.Notes[:cap(d.Notes)], d.Edges[0].Notes[:cap(d.Edges[0].Notes)])
		first, _ := manifest.Write(d)
		second, _ := manifest.Write(d)
		d.Needs()
		if after := fmt.Sprintf("%+v %+v %+v %+v", d, d.Edges[:cap(d.Edges)], d.Notes[:cap(d.Notes)], d.Edges[0].Notes[:cap(d.Edges[0].Notes)]); after != before {
			t.Errorf("%s, not %s", after, before)
		}
		if shared(spanOf(first), spanOf(second)) {
			t.Error("two texts share memory")
		}
		clear(first[:cap(first)])
		writes(t, d, string(second))
	}
}

// needs reports it unless these are the needs of d, in memory of their own.
func needs(t *testing.T, d manifest.Doc, want ...api.Desc) {
	t.Helper()
	l := d.Needs()
	if !slices.EqualFunc(l, want, sameDesc) {
		t.Errorf("Needs of %s = %s", sketch(d), sketch(l))
	}
	lists, texts := spans(l)
	own, ownTexts := docSpans(d)
	more, _ := spans(d.Needs())
	if shared(slices.Concat(lists, more)...) {
		t.Errorf("slices of the needs of %s share memory", sketch(d))
	}
	for _, s := range lists {
		if slices.ContainsFunc(own, func(o span) bool { return shared(s, o) }) {
			t.Errorf("the needs of %s share memory with it", sketch(d))
		}
	}
	for _, s := range texts {
		if slices.ContainsFunc(ownTexts, func(o span) bool { return shared(s, o) }) {
			t.Errorf("texts of the needs of %s are those of it", sketch(d))
		}
	}
}

func TestNeeds(t *testing.T) { // P8.3
	c, e, f, s := desc(1, "c"), desc(2, "d", "e"), desc(3), desc(4, "s")
	full := manifest.Doc{Media: image, Type: "t/x", Config: c, Edges: []api.Desc{e, f, e}, Subject: s, Has: true, Notes: notesOf("n")}
	needs(t, full, c, e, f, e)
	needs(t, manifest.Doc{Media: image, Config: c}, c)
	needs(t, manifest.Doc{Media: image}, api.Desc{})
	full.Media = index
	needs(t, full, e, f, e)
	needs(t, manifest.Doc{Media: index, Edges: []api.Desc{f}}, f)
	needs(t, manifest.Doc{Media: index})
	needs(t, manifest.Doc{})
	for _, m := range []string{"", "a/b", image + " ", strings.ToUpper(image), image[1:]} {
		full.Media = m
		needs(t, full, e, f, e)
		needs(t, manifest.Doc{Media: m, Config: c, Subject: s})
	}
}

func TestNeedsTakesDescriptorsAsTheyAre(t *testing.T) { // P8.3: the document needn't be valid
	odd := api.Desc{Media: "\xff", Size: -1, Notes: []api.Note{{Key: "\xff", Value: "\xfe"}, {Key: "\xff"}}}
	many := slices.Repeat([]api.Desc{odd}, 100)
	needs(t, manifest.Doc{Media: image, Config: odd, Edges: many}, append([]api.Desc{odd}, many...)...)
	needs(t, manifest.Doc{Media: index, Config: odd, Edges: many}, many...)
	needs(t, manifest.Doc{Media: image, Config: api.Desc{Notes: notesOf(manyKeys(1000)...)}}, api.Desc{Notes: notesOf(manyKeys(1000)...)})
}

func TestNeedsOfParsedDocuments(t *testing.T) { // P8.3
	for _, d := range fulls() {
		got, e := manifest.Parse([]byte(written(d)))
		if e != api.OK {
			t.Fatal(e)
		}
		want := d.Edges
		if d.Media == image {
			want = append([]api.Desc{d.Config}, d.Edges...)
		}
		needs(t, got, want...)
	}
}

func TestNeedsAreTheCallers(t *testing.T) { // P8.3, R3
	for _, d := range fulls() {
		l := d.Needs()
		for i := range l {
			for j := range l[i].Notes {
				l[i].Notes[j] = api.Note{}
			}
			l[i] = api.Desc{}
		}
		want := map[string]manifest.Doc{image: fullImage(), index: fullIndex()}[d.Media]
		if !same(d, want) {
			t.Errorf("%s", sketch(d))
		}
	}
}

func TestLimitsAreThoseOfApi(t *testing.T) { // P8.1, P8.2: the oracle's numbers are the chapter's
	if api.MaxEdges != 64 || api.MaxNotes != 32 || api.MaxSize != 1<<40 || api.MaxMedia != 127 || api.MaxText != 65536 || api.MaxItems <= 2480 {
		t.Error("the limits differ")
	}
	d := fullImage()
	d.Edges, d.Notes = manyDescs(64), notesOf(manyKeys(32)...)
	for _, x := range places(&d) {
		x.Notes = notesOf(manyKeys(32)...)
	}
	if n := count(treeOf(t, written(d))); n != 2480 {
		t.Errorf("the most values of a document are %d", n)
	}
}

// count is how many values a tree has.
func count(v json.Value) int {
	n := 1
	for _, k := range v.Kids {
		n += count(k)
	}
	return n
}
