package upload

import (
	"slices"

	"hallmark/api"
	"hallmark/name"
	"hallmark/octet"
	"hallmark/table"
)

const (
	// shelf is what the key of each upload begins with.
	shelf = "u/"
	// counter is the key of the next id.
	counter = "u"

	idSize = 4
	// lastID is the greatest id that has a key of its own.
	lastID = 1<<32 - 1
	// numberSize is how many bytes a time and the next id have.
	numberSize = 8
)

// entry is what the table says of an upload, with the digest's bytes if it is ending.
type entry struct {
	Session
	id  int
	end []byte
}

// Key is the key, and the file's name, of an upload.
func Key(id int) string { return shelf + octet.Hex(octet.Put(uint64(id), idSize)) }

// idOf is the id with this key, which begins like one.
func idOf(key string) (int, bool) {
	b, e := octet.Unhex(key[len(shelf):])
	if e != api.OK || len(b) != idSize {
		return 0, false
	}
	n, _ := octet.Get(b)
	return int(n), true
}

// idValue is the value of the next id.
func idValue(id int) []byte { return octet.Put(uint64(id), numberSize) }

// nextID is the next id of a table.
func nextID(t *table.Table) (int, bool) {
	v, ok := t.Get(counter)
	if !ok {
		return 1, true
	}
	n, ok := octet.Get(v)
	// One more than the last id says that none is left.
	return int(n), ok && n >= 1 && n <= lastID+1
}

// value is what the table is told of an upload, with the bytes of a digest if it is ending.
func value(s Session, end []byte) []byte {
	return slices.Concat(octet.Text(end), octet.Put(uint64(s.Until), numberSize), []byte(s.Repo))
}

// parse is what a key that begins like an upload's, and its value, say.
func parse(key string, v []byte) (entry, bool) {
	id, ok := idOf(key)
	if !ok {
		return entry{}, false
	}
	// A digest stands there as a Text: a byte 32 ahead of it, or a byte 0 without it.
	end, used, e := octet.ReadText(v, len(api.Digest{}))
	if e != api.OK || len(end) != 0 && len(end) != len(api.Digest{}) || len(v)-used < numberSize {
		return entry{}, false
	}
	until, _ := octet.Get(v[used : used+numberSize])
	repo := string(v[used+numberSize:])
	if until > api.MaxTime || !name.IsRepo(repo) {
		return entry{}, false
	}
	return entry{Session: Session{Repo: repo, Until: int(until)}, id: id, end: end}, true
}
