package manifest

import (
	"errors"
	"strconv"

	"hallmark/api"
	"hallmark/digest"
	"hallmark/json"
	"hallmark/name"
)

// fault is the error that a text has.
type fault api.Errno

func (f fault) Error() string { return "manifest: error " + strconv.Itoa(int(f)) }

// members is a set of members, a bit for each number.
type members uint

func setOf(l ...member) members {
	var s members
	for _, m := range l {
		s |= 1 << m
	}
	return s
}

// isJust reports whether s has all that is required, and nothing else but what is optional.
func (s members) isJust(required, optional members) bool { return s&^optional == required }

// document and descriptor are what is being read, as far as its members have occurred.
type document struct{ Doc }

type descriptor struct{ api.Desc }

// Parse is the document that bytes are.
func Parse(b []byte) (Doc, api.Errno) {
	d, err := read(b)
	var f fault
	if errors.As(err, &f) {
		return Doc{}, api.Errno(f)
	}
	return d, api.OK
}

func read(b []byte) (Doc, error) {
	v, _, e := json.Parse(b)
	if e != api.OK {
		return Doc{}, fault(e)
	}
	var d document
	seen, err := examine(v, d.take)
	if err != nil {
		return Doc{}, err
	}
	if !d.isWhole(seen) {
		return Doc{}, fault(api.ErrManifest)
	}
	return d.Doc, nil
}

// examine has the members of an object taken one by one, and says which have occurred.
func examine(v json.Value, take func(m member, v json.Value) error) (members, error) {
	if err := checkKind(v, json.Object); err != nil {
		return 0, err
	}
	var seen members
	for i, n := range v.Names {
		m := numbered(n)
		if err := take(m, v.Kids[i]); err != nil {
			return 0, err
		}
		seen |= setOf(m)
	}
	return seen, nil
}

// numbered is the number of the member with this name.
func numbered(s string) member {
	for i, n := range names {
		if n == s {
			return member(i)
		}
	}
	return unknown
}

// take reads a member. Which of config, layers and manifests belong to the document is asked at its end, as its media type may come last.
func (d *document) take(m member, v json.Value) (err error) {
	switch m {
	case version:
		err = checkVersion(v)
	case media:
		d.Media, err = readMedia(v, isDocMedia)
	case artifact:
		d.Type, err = readMedia(v, name.IsMedia)
	case config:
		d.Config, err = readDesc(v)
	case layers, manifests:
		d.Edges, err = readEdges(v)
	case subject:
		d.Has = true
		d.Subject, err = readDesc(v)
	case notes:
		d.Notes, err = readNotes(v)
	default:
		err = fault(api.ErrManifest)
	}
	return err
}

// isWhole reports whether these are the members that a document of its media type must have, and none of the other kind's.
func (d *document) isWhole(seen members) bool {
	required := setOf(version, media, manifests)
	if d.Media == Image {
		required = setOf(version, media, config, layers)
	}
	return seen.isJust(required, setOf(artifact, subject, notes))
}

func (d *descriptor) take(m member, v json.Value) (err error) {
	switch m {
	case media:
		d.Media, err = readMedia(v, name.IsMedia)
	case sum:
		d.Digest, err = readDigest(v)
	case size:
		d.Size, err = readSize(v)
	case notes:
		d.Notes, err = readNotes(v)
	default:
		err = fault(api.ErrManifest)
	}
	return err
}

func readDesc(v json.Value) (api.Desc, error) {
	var d descriptor
	seen, err := examine(v, d.take)
	if err != nil {
		return api.Desc{}, err
	}
	if !seen.isJust(setOf(media, sum, size), setOf(notes)) {
		return api.Desc{}, fault(api.ErrManifest)
	}
	return d.Desc, nil
}

func readEdges(v json.Value) ([]api.Desc, error) {
	if err := checkSeries(v, json.List, api.MaxEdges); err != nil {
		return nil, err
	}
	var l []api.Desc
	for _, k := range v.Kids {
		d, err := readDesc(k)
		if err != nil {
			return nil, err
		}
		l = append(l, d)
	}
	return l, nil
}

func readNotes(v json.Value) ([]api.Note, error) {
	if err := checkSeries(v, json.Object, api.MaxNotes); err != nil {
		return nil, err
	}
	var l []api.Note
	for i, k := range v.Kids {
		if err := checkKind(k, json.Text); err != nil {
			return nil, err
		}
		l = append(l, api.Note{Key: v.Names[i], Value: k.Text})
	}
	return l, nil
}

// checkKind is the fault of a value that must be of this kind.
func checkKind(v json.Value, kind int) error {
	if v.Kind != kind {
		return fault(api.ErrManifest)
	}
	return nil
}

// checkSeries is checkKind for at most so many kids: too many are told ahead of what is wrong with one of them.
func checkSeries(v json.Value, kind, most int) error {
	if v.Kind == kind && len(v.Kids) > most {
		return fault(api.ErrLimit)
	}
	return checkKind(v, kind)
}

func checkVersion(v json.Value) error {
	if v.Kind != json.Number || v.Num != schemaVersion {
		return fault(api.ErrManifest)
	}
	return nil
}

// readMedia is a text that must be a media type, one of those that are accepted.
func readMedia(v json.Value, accepted func(string) bool) (string, error) {
	if err := checkKind(v, json.Text); err != nil {
		return "", err
	}
	if !accepted(v.Text) {
		return "", fault(api.ErrMedia)
	}
	return v.Text, nil
}

func readDigest(v json.Value) (api.Digest, error) {
	if err := checkKind(v, json.Text); err != nil {
		return api.Digest{}, err
	}
	d, e := digest.Parse(v.Text)
	if e != api.OK {
		return api.Digest{}, fault(api.ErrDigest)
	}
	return d, nil
}

func readSize(v json.Value) (int, error) {
	if err := checkKind(v, json.Number); err != nil {
		return 0, err
	}
	if !isSize(v.Num) {
		return 0, fault(api.ErrSize)
	}
	return v.Num, nil
}
