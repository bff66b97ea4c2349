package manifest_test

import (
	"fmt"
	"math/rand"
	"slices"
	"strings"
	"testing"

	"hallmark/api"
	"hallmark/json"
	"hallmark/manifest"
)

// parsed is what Parse answers, once it's seen that nothing is told beside an error and that the argument is left as it was.
func parsed(t *testing.T, s string) (manifest.Doc, api.Errno) {
	t.Helper()
	b := append([]byte(s), `"]}0 `...)
	d, e := manifest.Parse(b[:len(s)])
	if string(b) != s+`"]}0 ` {
		t.Errorf("Parse changed what it was given: %.100q", s)
	}
	if e != api.OK && !same(d, manifest.Doc{}) {
		t.Errorf("Parse(%.300q) tells a document beside error %d: %s", s, e, sketch(d))
	}
	return d, e
}

// accepts reports it unless Parse answers this document.
func accepts(t *testing.T, s string, want manifest.Doc) {
	t.Helper()
	if d, e := parsed(t, s); e != api.OK || !same(d, want) {
		t.Errorf("Parse(%.300q) = %s, %d", s, sketch(d), e)
	}
}

// refuses reports it unless Parse answers this error, and the oracle too.
func refuses(t *testing.T, s string, want api.Errno) {
	t.Helper()
	if _, e := parsed(t, s); e != want {
		t.Errorf("Parse(%.300q): error %d, want %d", s, e, want)
	}
	if e := judged(s); e != want {
		t.Errorf("the oracle is wrong about %.300q: error %d, want %d", s, e, want)
	}
}

// agrees reports it unless Parse answers what the oracle does.
func agrees(t *testing.T, s string) api.Errno {
	t.Helper()
	e := judged(s)
	if e != api.OK {
		refuses(t, s, e)
	} else {
		accepts(t, s, decoded(s))
	}
	return e
}

const (
	sumText   = `"sha256:070f171f272f373f474f575f676f777f878f979fa7afb7bfc7cfd7dfe7eff7ff"`
	descText0 = `{"mediaType":"a/b","digest":` + sumText + `,"size":0}`
)

// textWith is the text of a small image, with something in the place of something.
func textWith(old, new string) string {
	s := `{"schemaVersion":2,"mediaType":"` + image + `","artifactType":"t/x","config":` + descText0 + `,"layers":[],"subject":` + descText0 + `,"annotations":{"k":"v"}}`
	if !strings.Contains(s, old) {
		panic(old)
	}
	return strings.Replace(s, old, new, 1)
}

// indexWith is textWith of a small index.
func indexWith(old, new string) string {
	s := `{"schemaVersion":2,"mediaType":"` + index + `","manifests":[` + descText0 + `]}`
	if !strings.Contains(s, old) {
		panic(old)
	}
	return strings.Replace(s, old, new, 1)
}

func TestParse(t *testing.T) { // P8.1
	small := api.Desc{Media: "a/b", Digest: marked(0)}
	accepts(t, `{"schemaVersion":2,"mediaType":"application/vnd.oci.image.index.v1+json","manifests":[]}`, manifest.Doc{Media: index})
	accepts(t, `{"schemaVersion":2,"mediaType":"application/vnd.oci.image.manifest.v1+json","config":`+descText0+`,"layers":[]}`, manifest.Doc{Media: image, Config: small})
	accepts(t, textWith("", ""), manifest.Doc{Media: image, Type: "t/x", Config: small, Subject: small, Has: true, Notes: []api.Note{{Key: "k", Value: "v"}}})
	accepts(t, indexWith("", ""), manifest.Doc{Media: index, Edges: []api.Desc{small}})
	accepts(t, ` { "mediaType" : "`+index+"\" ,\n\"manifests\" : [ "+descText0+" , "+descText0+" ] , \t\"schemaVersion\" : 2 }\r\n", manifest.Doc{Media: index, Edges: []api.Desc{small, small}})
	accepts(t, `{"schema\u0056ersion":2,"\u006dediaType":"`+strings.ReplaceAll(index, "/", `\/`)+`","manifests":[]}`, manifest.Doc{Media: index})
	for _, d := range []manifest.Doc{fullImage(), fullIndex(), {Media: image, Config: desc(7)}, {Media: index}} {
		accepts(t, written(d), d)
	}
	if manifest.Image != image || manifest.Index != index {
		t.Error("the media types differ")
	}
}

func TestParseNotes(t *testing.T) { // P8.1: in the order in which they occur; whatever their texts are
	accepts(t, indexWith("]}", `],"annotations":{"b":"1","a":"2","":"","B":"b","é\n":"\u0000","mediaType":"digest","config":"x"}}`), manifest.Doc{
		Media: index, Edges: []api.Desc{{Media: "a/b", Digest: marked(0)}},
		Notes: []api.Note{{Key: "b", Value: "1"}, {Key: "a", Value: "2"}, {}, {Key: "B", Value: "b"}, {Key: "é\n", Value: "\x00"}, {Key: "mediaType", Value: "digest"}, {Key: "config", Value: "x"}},
	})
	none := manifest.Doc{Media: index, Edges: []api.Desc{{Media: "a/b", Digest: marked(0)}}}
	accepts(t, indexWith("]}", `],"annotations":{}}`), none)
	accepts(t, indexWith(`:0}`, `:0,"annotations":{}}`), none)
	accepts(t, indexWith(`"size":0`, `"annotations":{ },"size":0`), none)
}

func TestParseFields(t *testing.T) { // P8.1: what is absent is zero, also where the other kind has it
	for _, full := range []manifest.Doc{fullImage(), fullIndex()} {
		for some := range 8 {
			d := full
			if some&1 > 0 {
				d.Type = ""
			}
			if some&2 > 0 {
				d.Has, d.Subject = false, api.Desc{}
			}
			if some&4 > 0 {
				d.Notes = nil
			}
			accepts(t, written(d), d)
		}
	}
}

// permuted calls do with v's members in each order.
func permuted(v json.Value, do func(json.Value)) {
	var from func(int)
	from = func(i int) {
		if i == len(v.Kids) {
			do(v)
		}
		for j := i; j < len(v.Kids); j++ {
			swap(v, i, j)
			from(i + 1)
			swap(v, i, j)
		}
	}
	from(0)
}

func swap(v json.Value, i, j int) {
	v.Names[i], v.Names[j] = v.Names[j], v.Names[i]
	v.Kids[i], v.Kids[j] = v.Kids[j], v.Kids[i]
}

func TestParseAnyOrder(t *testing.T) { // P8.1
	d := manifest.Doc{Media: image, Type: "t/x", Config: desc(1, "c"), Edges: []api.Desc{desc(2, "d")}, Subject: desc(3), Has: true, Notes: notesOf("n")}
	permuted(treeOf(t, written(d)), func(v json.Value) { accepts(t, textOf(t, v), d) })
	d = fullIndex()
	permuted(treeOf(t, written(d)), func(v json.Value) { accepts(t, textOf(t, v), d) })
	d = manifest.Doc{Media: image, Config: desc(1, "c", "d")}
	v := treeOf(t, written(d))
	permuted(v.Kids[2], func(c json.Value) {
		v.Kids[2] = c
		accepts(t, textOf(t, v), d)
	})
}

func TestParseJSONErrors(t *testing.T) { // P8.1: those of layer 6 are told ahead of all others
	for s, e := range map[string]api.Errno{
		"": api.ErrShort, "[": api.ErrShort, `{"x":0`: api.ErrShort, `{"schemaVersion":2,"mediaType":"` + index + `","manifests":[]`: api.ErrShort,
		"x": api.ErrForm, `{"x":0,}`: api.ErrForm, `{"schemaVersion":1}}`: api.ErrForm, "[]]": api.ErrForm,
		`{"x":01}`: api.ErrNumber, `{"schemaVersion":2.0}`: api.ErrNumber, `{"schemaVersion":"","size":1e3}`: api.ErrNumber, `{"x":9007199254740992}`: api.ErrNumber,
		"{\"x\":\"\n\"}": api.ErrText, "{\"x\":\"\xff\"}": api.ErrUTF8, `{"x":"\q"}`: api.ErrEscape, `{"x":"\ud800"}`: api.ErrEscape,
		`{"x":0,"x":0}`: api.ErrTwice, `{"mediaType":0,"mediaType":0}`: api.ErrTwice,
		`{"x":` + strings.Repeat("[", 16): api.ErrDeep, `{"x":[` + strings.Repeat("0,", 4094) + "0]}": api.ErrLimit, `{"x":"` + strings.Repeat("a", 65536) + `"}`: api.ErrLimit, strings.Repeat(" ", 65537): api.ErrLimit,
	} {
		refuses(t, s, e)
	}
	if d, e := manifest.Parse(nil); e != api.ErrShort || !same(d, manifest.Doc{}) {
		t.Errorf("Parse(nil) = %s, %d", sketch(d), e)
	}
	whole := written(fullIndex())
	for i := range len(whole) {
		refuses(t, whole[:i], api.ErrShort)
	}
	refuses(t, textWith(`{"k":"v"}`, `{"k":"v","k":"v"}`), api.ErrTwice)
	refuses(t, textWith(`"size":0}`, `"size":0,"size":0}`), api.ErrTwice)
	refuses(t, textWith(`"layers"`, `"lay\u0065rs":[],"layers"`), api.ErrTwice)
	refuses(t, `{"x":[`+strings.Repeat("0,", 4093)+"0]}", api.ErrManifest)
	refuses(t, `{"x":"`+strings.Repeat("a", 65528)+`"}`, api.ErrManifest)
	full := manifest.Doc{Media: index, Notes: []api.Note{{}}}
	full.Notes[0].Value = strings.Repeat("a", 65536-len(written(full)))
	accepts(t, written(full), full)
	refuses(t, written(full)+" ", api.ErrLimit)
}

func TestParseNoObject(t *testing.T) { // P8.1
	for _, s := range []string{"[]", "null", "true", "false", "0", "2", `""`, `"x"`, `"` + image + `"`, "[" + written(fullImage()) + "]", " [ ] "} {
		refuses(t, s, api.ErrManifest)
	}
	refuses(t, "{}", api.ErrManifest)
}

func TestParseNames(t *testing.T) { // P8.1
	for _, n := range []string{"x", "", "digest", "size", "Config", "config ", "schemaversion", "SchemaVersion", "media", "annotation", "mediaType\x00", "urls", "data", "platform", "é"} {
		refuses(t, textWith("{", "{"+quoted(n)+":0,"), api.ErrManifest)
		refuses(t, textWith("}}", "},"+quoted(n)+":{}}"), api.ErrManifest)
		refuses(t, indexWith("]}", "],"+quoted(n)+":[]}"), api.ErrManifest)
	}
	for _, n := range []string{"x", "", "schemaVersion", "config", "layers", "manifests", "subject", "artifactType", "Size", "DIGEST", "mediatype", "urls", "data", "platform"} {
		refuses(t, textWith(`:0}`, ":0,"+quoted(n)+":0}"), api.ErrManifest)
		refuses(t, indexWith(`{"mediaType":"a/b"`, "{"+quoted(n)+`:"a/b","mediaType":"a/b"`), api.ErrManifest)
	}
}

// others are values of every kind but those that it leaves out.
func others(but ...int) (l []string) {
	for k, s := range []string{"null", "false", "true", "2", `"a/b"`, "[]", "{}"} {
		if !slices.Contains(but, k) {
			l = append(l, s)
		}
	}
	return l
}

func TestParseKinds(t *testing.T) { // P8.1: a value of another kind than required
	for _, o := range others(json.Number) {
		refuses(t, textWith(`"schemaVersion":2`, `"schemaVersion":`+o), api.ErrManifest)
		refuses(t, textWith(`"size":0`, `"size":`+o), api.ErrManifest)
	}
	for _, o := range others(json.Text) {
		refuses(t, textWith(quoted(image), o), api.ErrManifest)
		refuses(t, indexWith(quoted(index), o), api.ErrManifest)
		refuses(t, textWith(`"t/x"`, o), api.ErrManifest)
		refuses(t, textWith(`"a/b"`, o), api.ErrManifest)
		refuses(t, textWith(sumText, o), api.ErrManifest)
		refuses(t, textWith(`"v"`, o), api.ErrManifest)
		refuses(t, indexWith(`:0}`, `:0,"annotations":{"a":"","b":`+o+"}}"), api.ErrManifest)
	}
	for _, o := range others(json.Object) {
		refuses(t, textWith(`"config":`+descText0, `"config":`+o), api.ErrManifest)
		refuses(t, textWith(`"subject":`+descText0, `"subject":`+o), api.ErrManifest)
		refuses(t, textWith(`{"k":"v"}`, o), api.ErrManifest)
		refuses(t, indexWith(`:0}`, `:0,"annotations":`+o+"}"), api.ErrManifest)
		refuses(t, textWith("[]", "["+o+"]"), api.ErrManifest)
		refuses(t, indexWith("["+descText0, "["+descText0+","+o), api.ErrManifest)
	}
	for _, o := range others(json.List) {
		refuses(t, textWith("[]", o), api.ErrManifest)
		refuses(t, indexWith("["+descText0+"]", o), api.ErrManifest)
	}
}

func TestParseVersion(t *testing.T) { // P8.1
	for _, n := range []string{"1", "0", "3", "-2", "20", "22", "9007199254740991", "-0"} {
		refuses(t, textWith(`"schemaVersion":2`, `"schemaVersion":`+n), api.ErrManifest)
		refuses(t, indexWith(`"schemaVersion":2`, `"schemaVersion":`+n), api.ErrManifest)
	}
}

func TestParseMedia(t *testing.T) { // P8.1
	for _, s := range []string{"", "a", "a/", "/b", "a/b/c", "+a/b", "a/b ", "é/a", "a/" + strings.Repeat("b", 126)} {
		refuses(t, textWith(quoted(image), quoted(s)), api.ErrMedia)
		refuses(t, textWith(`"t/x"`, quoted(s)), api.ErrMedia)
		refuses(t, textWith(`"config":{"mediaType":"a/b"`, `"config":{"mediaType":`+quoted(s)), api.ErrMedia)
		refuses(t, textWith(`"subject":{"mediaType":"a/b"`, `"subject":{"mediaType":`+quoted(s)), api.ErrMedia)
		refuses(t, indexWith(`[{"mediaType":"a/b"`, `[{"mediaType":`+quoted(s)), api.ErrMedia)
	}
	for _, s := range []string{"a/b", "x" + image, image + "x", image[1:], strings.ToUpper(image), " " + index, index[:len(index)-1], "application/vnd.docker.distribution.manifest.v2+json", "application/json"} {
		refuses(t, textWith(quoted(image), quoted(s)), api.ErrMedia)
		refuses(t, indexWith(quoted(index), quoted(s)), api.ErrMedia)
	}
	for _, s := range []string{"0/9", image, index, "A!#$&-^_.+/z", "a/" + strings.Repeat("b", 125)} {
		d := manifest.Doc{Media: index, Type: s, Edges: []api.Desc{{Media: s}}}
		accepts(t, written(d), d)
	}
}

func TestParseDigest(t *testing.T) { // P8.1
	sum := strings.Trim(sumText, `"`)
	for _, s := range []string{"", "sha256:", sum[7:], sum[:70], sum + "0", strings.ToUpper(sum), "sha256:" + strings.ToUpper(sum[7:]), "sha512:" + sum[7:], " " + sum, sum + " ", "sha256:" + strings.Repeat("g", 64), "SHA256:" + sum[7:], "a/b"} {
		refuses(t, textWith(sumText, quoted(s)), api.ErrDigest)
		refuses(t, textWith(`"subject":{"mediaType":"a/b","digest":`+sumText, `"subject":{"mediaType":"a/b","digest":`+quoted(s)), api.ErrDigest)
		refuses(t, indexWith(sumText, quoted(s)), api.ErrDigest)
	}
}

func TestParseSize(t *testing.T) { // P8.1
	for _, n := range []string{"-1", "1099511627777", "9007199254740991", "-9007199254740991", "-1099511627776"} {
		refuses(t, textWith(`"size":0`, `"size":`+n), api.ErrSize)
		refuses(t, textWith(`"size":0},"annotations"`, `"size":`+n+`},"annotations"`), api.ErrSize)
		refuses(t, indexWith(`"size":0`, `"size":`+n), api.ErrSize)
	}
	for _, n := range []int{0, 1, 1<<40 - 1, 1 << 40} {
		d := manifest.Doc{Media: index, Edges: []api.Desc{{Media: "a/b", Size: n}}}
		accepts(t, written(d), d)
	}
	accepts(t, indexWith(`"size":0`, `"size":-0`), manifest.Doc{Media: index, Edges: []api.Desc{{Media: "a/b", Digest: marked(0)}}})
}

// repeated is n times s, with commas between.
func repeated(s string, n int) string { return strings.Repeat(s+",", n-1) + s }

// numbered is a text of n members that are called by numbers.
func numbered(n int, value string) string {
	var l []string
	for i := range n {
		l = append(l, fmt.Sprintf(`"%d":%s`, i, value))
	}
	return "{" + strings.Join(l, ",") + "}"
}

func TestParseLimits(t *testing.T) { // P8.1
	for _, d := range []manifest.Doc{
		{Media: index, Edges: manyDescs(64)},
		{Media: index, Notes: notesOf(manyKeys(32)...)},
		{Media: index, Edges: manyDescs(64, manyKeys(32)...), Has: true, Subject: desc(1, manyKeys(32)...), Notes: notesOf(manyKeys(32)...)},
		{Media: image, Edges: manyDescs(64), Config: desc(0, manyKeys(32)...)},
	} {
		accepts(t, written(d), d)
	}
	for _, n := range []int{65, 66, 100, 300} {
		refuses(t, indexWith(descText0, repeated(descText0, n)), api.ErrLimit)
		refuses(t, textWith("[]", "["+repeated(descText0, n)+"]"), api.ErrLimit)
	}
	for _, n := range []int{33, 34, 100, 1000} {
		refuses(t, textWith(`{"k":"v"}`, numbered(n, `""`)), api.ErrLimit)
		refuses(t, textWith(`:0}`, `:0,"annotations":`+numbered(n, `""`)+"}"), api.ErrLimit)
		refuses(t, indexWith(`:0}`, `:0,"annotations":`+numbered(n, `""`)+"}"), api.ErrLimit)
	}
}

func TestParseLimitComesFirst(t *testing.T) { // P8.1: too many elements are told ahead of errors in one of them
	for _, s := range append(others(json.Object), "{}", `{"x":0}`, `{"mediaType":""}`, `{"digest":""}`, `{"size":-1}`, `{"annotations":`+numbered(33, "0")+"}") {
		refuses(t, indexWith(descText0, repeated(s, 65)), api.ErrLimit)
		refuses(t, indexWith(descText0, s+","+repeated(descText0, 64)), api.ErrLimit)
		refuses(t, textWith("[]", "["+repeated(s, 65)+"]"), api.ErrLimit)
	}
	refuses(t, indexWith(descText0, repeated("{}", 64)), api.ErrManifest)
	refuses(t, indexWith(descText0, repeated(`{"mediaType":""}`, 64)), api.ErrMedia)
	for _, s := range others(json.Text) {
		refuses(t, textWith(`{"k":"v"}`, numbered(33, s)), api.ErrLimit)
		refuses(t, textWith(`{"k":"v"}`, numbered(32, s)), api.ErrManifest)
		refuses(t, indexWith(`:0}`, `:0,"annotations":`+numbered(33, s)+"}"), api.ErrLimit)
		refuses(t, indexWith(`:0}`, `:0,"annotations":`+numbered(32, s)+"}"), api.ErrManifest)
	}
	// But what occurs ahead of the list is told ahead of it.
	refuses(t, `{"mediaType":"a/b","manifests":[`+repeated("0", 65)+"]}", api.ErrMedia)
	refuses(t, `{"manifests":[`+repeated("0", 65)+`],"mediaType":"a/b"}`, api.ErrLimit)
	refuses(t, indexWith(`"size":0`, `"size":-1,"annotations":`+numbered(33, "0")), api.ErrSize)
	refuses(t, indexWith(`"size":0`, `"annotations":`+numbered(33, "0")+`,"size":-1`), api.ErrLimit)
}

func TestParseMissing(t *testing.T) { // P8.1
	for _, d := range []manifest.Doc{fullImage(), fullIndex()} {
		v := treeOf(t, written(d))
		for i, n := range v.Names {
			s := textOf(t, without(v, i))
			if slices.Contains([]string{"artifactType", "subject", "annotations"}, n) {
				accepts(t, s, decoded(s))
			} else {
				refuses(t, s, api.ErrManifest)
			}
		}
	}
	for _, s := range []string{`"mediaType":"a/b",`, `"digest":` + sumText + ",", `,"size":0`} {
		for _, at := range []string{`"config":`, `"subject":`} {
			refuses(t, textWith(at+descText0, at+strings.Replace(descText0, s, "", 1)), api.ErrManifest)
		}
		refuses(t, indexWith(s, ""), api.ErrManifest)
		refuses(t, indexWith("["+descText0, "["+descText0+","+strings.Replace(descText0, s, "", 1)), api.ErrManifest)
	}
	refuses(t, textWith(`"config":`+descText0, `"config":{}`), api.ErrManifest)
	refuses(t, textWith(`"config":`+descText0, `"config":{"annotations":{}}`), api.ErrManifest)
}

func TestParseOtherKindsMembers(t *testing.T) { // P8.1: refused after all members, and not where they occur
	for _, front := range []bool{true, false} {
		add := func(s, member string) string {
			if front {
				return "{" + member + "," + s[1:]
			}
			return s[:len(s)-1] + "," + member + "}"
		}
		whole, list := textWith("", ""), indexWith("", "")
		for _, m := range []string{`"manifests":[]`, `"manifests":[` + descText0 + "]"} {
			refuses(t, add(whole, m), api.ErrManifest)
		}
		for _, m := range []string{`"layers":[]`, `"config":` + descText0, `"layers":[` + descText0 + `],"config":` + descText0} {
			refuses(t, add(list, m), api.ErrManifest)
		}
		refuses(t, add(textWith(`"layers":[],`, ""), `"manifests":[]`), api.ErrManifest)
		refuses(t, add(indexWith(`,"manifests":[`+descText0+"]", ""), `"layers":[],"config":`+descText0), api.ErrManifest)
	}
	// They are examined as any others are, and what is wrong behind them comes ahead of that they are there.
	refuses(t, indexWith("]}", `],"config":{"mediaType":"a"}}`), api.ErrMedia)
	refuses(t, indexWith("]}", `],"config":{"digest":""}}`), api.ErrDigest)
	refuses(t, indexWith("]}", `],"layers":[`+repeated("0", 65)+"]}"), api.ErrLimit)
	refuses(t, textWith("[]", `[],"manifests":[{"size":-1}]`), api.ErrSize)
	refuses(t, textWith(`"layers":[]`, `"manifests":[],"layers":[{"size":-1}]`), api.ErrSize)
	refuses(t, indexWith(`"manifests"`, `"layers":[],"artifactType":"","manifests"`), api.ErrMedia)
	refuses(t, `{"manifests":[],"config":`+descText0+`,"layers":[],"mediaType":""}`, api.ErrMedia)
	refuses(t, `{"artifactType":""}`, api.ErrMedia)
	refuses(t, `{"config":{},"artifactType":""}`, api.ErrManifest)
}

func TestParseFirstError(t *testing.T) { // P8.1: of two members, the first one that is wrong counts
	wrong := map[string]api.Errno{
		`"schemaVersion":1`: api.ErrManifest, `"x":0`: api.ErrManifest, `"mediaType":"a/b"`: api.ErrMedia, `"artifactType":""`: api.ErrMedia,
		`"config":{"digest":"","size":-1}`: api.ErrDigest, `"layers":[` + descText0 + `,{"size":-1,"digest":""},0]`: api.ErrSize,
		`"manifests":[` + repeated("0", 65) + "]": api.ErrLimit, `"subject":{"size":1099511627777,"x":0}`: api.ErrSize, `"annotations":` + numbered(33, "0"): api.ErrLimit,
	}
	for a, e := range wrong {
		for b := range wrong {
			if a != b {
				refuses(t, "{"+a+","+b+"}", e)
			}
		}
	}
}

func TestParseFirstErrorOfDescriptor(t *testing.T) { // P8.1
	wrong := map[string]api.Errno{
		`"mediaType":"a"`: api.ErrMedia, `"digest":"a"`: api.ErrDigest, `"size":-1`: api.ErrSize, `"annotations":` + numbered(33, "0"): api.ErrLimit, `"x":0`: api.ErrManifest,
	}
	for a, e := range wrong {
		for b := range wrong {
			if a != b {
				refuses(t, indexWith(descText0, "{"+a+","+b+"}"), e)
				refuses(t, textWith(`"config":`+descText0, `"config":{`+a+","+b+"}"), e)
				refuses(t, textWith(`"subject":`+descText0, `"subject":{`+a+","+b+"}"), e)
				refuses(t, textWith("[]", "[{"+a+"},{"+b+"}]"), e)
			}
		}
	}
}

// without is v without its member or kid i.
func without(v json.Value, i int) json.Value {
	v.Kids = slices.Delete(slices.Clone(v.Kids), i, i+1)
	if v.Kind == json.Object {
		v.Names = slices.Delete(slices.Clone(v.Names), i, i+1)
	}
	return v
}

// with is v with one more kid at i, under a name if it is an object.
func with(v json.Value, i int, name string, kid json.Value) json.Value {
	v.Kids = slices.Insert(slices.Clone(v.Kids), i, kid)
	if v.Kind == json.Object {
		v.Names = slices.Insert(slices.Clone(v.Names), i, name)
	}
	return v
}

// strangers are values of each kind, right in some places and wrong in others.
func strangers(t *testing.T) (l []json.Value) {
	t.Helper()
	for _, s := range []string{"null", "true", "0", "2", "-1", "1099511627777", `""`, `"a/b"`, quoted(index), sumText, "[]", "{}", `{"a":"b"}`, `{"a":0}`,
		descText0, "[" + descText0 + "]", "[" + repeated("{}", 65) + "]", numbered(33, "0")} {
		l = append(l, treeOf(t, s))
	}
	return l
}

// names are those of all members, and others.
func names() []string {
	return []string{"schemaVersion", "mediaType", "artifactType", "config", "layers", "manifests", "subject", "annotations", "digest", "size", "x", ""}
}

// altered calls do with each tree that differs from v in one place: another value, one less, one more, a member under another name or further ahead.
func altered(v json.Value, values []json.Value, do func(json.Value)) {
	for _, x := range values {
		do(x)
	}
	for i, k := range v.Kids {
		name := ""
		if v.Kind == json.Object {
			name = v.Names[i]
		}
		altered(k, values, func(x json.Value) { do(with(without(v, i), i, name, x)) })
		do(without(v, i))
	}
	if v.Kind != json.Object {
		return
	}
	for i := range v.Kids {
		for _, n := range names() {
			do(with(without(v, i), i, n, v.Kids[i]))
		}
		for j := range i {
			do(with(without(v, i), j, v.Names[i], v.Kids[i]))
		}
	}
	for i := range len(v.Kids) + 1 {
		for _, n := range names() {
			for _, x := range values {
				do(with(v, i, n, x))
			}
		}
	}
}

// looseText is the text of a tree whose names needn't differ.
func looseText(v json.Value) string {
	var l []string
	for i, k := range v.Kids {
		if v.Kind == json.Object {
			l = append(l, quoted(v.Names[i])+":"+looseText(k))
		} else {
			l = append(l, looseText(k))
		}
	}
	all := strings.Join(l, ",")
	return []string{"null", "false", "true", fmt.Sprint(v.Num), quoted(v.Text), "[" + all + "]", "{" + all + "}"}[v.Kind]
}

// samples are trees of documents that have each kind of member.
func samples(t *testing.T) []json.Value {
	return []json.Value{
		treeOf(t, written(manifest.Doc{Media: image, Type: "t/x", Config: desc(1), Edges: []api.Desc{desc(2, "d"), desc(3)}, Subject: desc(4), Has: true, Notes: notesOf("n")})),
		treeOf(t, written(manifest.Doc{Media: index, Edges: []api.Desc{desc(5), desc(6, "e")}, Notes: notesOf("n", "o")})),
	}
}

func TestParseOfAlteredDocuments(t *testing.T) { // P8.1
	counts := map[api.Errno]int{}
	for _, v := range samples(t) {
		altered(v, strangers(t), func(v json.Value) { counts[agrees(t, looseText(v))]++ })
	}
	for _, e := range []api.Errno{api.OK, api.ErrManifest, api.ErrMedia, api.ErrDigest, api.ErrSize, api.ErrLimit, api.ErrTwice} {
		if counts[e] < 10 {
			t.Errorf("%d of the altered documents have the error %d", counts[e], e)
		}
	}
}

func TestParseOfTwiceAlteredDocuments(t *testing.T) { // P8.1: which of two errors comes first
	r := rand.New(rand.NewSource(81))
	for _, v := range samples(t) {
		var once []json.Value
		altered(v, strangers(t), func(v json.Value) {
			if v.Kind == json.Object && len(v.Kids) > 3 {
				once = append(once, v)
			}
		})
		for range 30 {
			values := strangers(t)
			i := r.Intn(len(values))
			altered(once[r.Intn(len(once))], values[i:i+1], func(v json.Value) { agrees(t, looseText(v)) })
		}
	}
}

func TestParseOfAlteredTexts(t *testing.T) { // P8.1
	bytes := []byte(" \"\\,:[]{}0129-azAZ/+._\x00\x1f\x80\xff")
	for _, d := range []manifest.Doc{{Media: image, Type: "t/x", Config: desc(1), Edges: []api.Desc{desc(2, "a")}}, {Media: index, Edges: []api.Desc{desc(3)}, Notes: notesOf("k")}} {
		s := written(d)
		for i := range len(s) {
			agrees(t, s[:i]+s[i+1:])
			for _, c := range bytes {
				agrees(t, s[:i]+string([]byte{c})+s[i:])
				agrees(t, s[:i]+string([]byte{c})+s[i+1:])
			}
		}
	}
}

func TestParseIsNewMemory(t *testing.T) { // P8.1, R3
	for _, d := range []manifest.Doc{fullImage(), fullIndex(), {Media: image, Config: desc(0, manyKeys(32)...), Edges: manyDescs(30, manyKeys(3)...), Notes: notesOf(manyKeys(31)...)}} {
		b := []byte(written(d))
		first, e := manifest.Parse(b)
		second, _ := manifest.Parse(b)
		lists, texts := docSpans(first)
		others, otherTexts := docSpans(second)
		if e != api.OK || shared(append(slices.Concat(lists, others), spanOf(b))...) {
			t.Error("slices of documents share memory")
		}
		for _, s := range append(texts, otherTexts...) {
			if shared(s, spanOf(b)) {
				t.Error("a text of a document is the input's memory")
			}
		}
		clear(b)
		if !same(first, d) || !same(second, d) {
			t.Error("a document changes with its input")
		}
	}
}
