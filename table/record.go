package table

import (
	"hallmark/api"
	"hallmark/octet"
)

// Most is how many changes are done at once.
const Most = 256

// mostBytes is how long a record may be, so that the journal can append its frame, which has 8 bytes more, at once.
const mostBytes = api.MaxRecord - 8

// Each change of a record begins with one of these bytes.
const (
	goneMark = 0
	setMark  = 1
)

// Change is a key that gets a value, or goes.
type Change struct {
	Key   string
	Gone  bool
	Value []byte
}

// Encode is changes as a record.
func Encode(l []Change) ([]byte, api.Errno) {
	if len(l) > Most {
		return nil, api.ErrLimit
	}
	b := octet.Count(uint64(len(l)))
	for _, c := range l {
		if !isSound(c) {
			return nil, api.ErrArg
		}
		b = append(b, encoded(c)...)
		if len(b) > mostBytes {
			return nil, api.ErrLimit
		}
	}
	return b, api.OK
}

// isSound says whether a change's key is a key, and its value short enough, even if nobody looks at it.
func isSound(c Change) bool {
	return len(c.Key) >= 1 && len(c.Key) <= api.MaxKey && len(c.Value) <= api.MaxValue
}

// encoded is a change as it stands in a record.
func encoded(c Change) []byte {
	key := octet.Text([]byte(c.Key))
	if c.Gone {
		return append([]byte{goneMark}, key...)
	}
	return append(append([]byte{setMark}, key...), octet.Text(c.Value)...)
}

// Decode is the changes that a record is.
func Decode(b []byte) ([]Change, api.Errno) {
	n, at, e := octet.ReadCount(b)
	if e != api.OK || n > Most {
		return nil, api.ErrForm
	}
	var l []Change
	for range n {
		c, size, ok := first(b[at:])
		if !ok {
			return nil, api.ErrForm
		}
		l = append(l, c)
		at += size
	}
	if at < len(b) {
		return nil, api.ErrForm
	}
	return l, api.OK
}

// first is the change with which bytes begin, and how many bytes it has.
func first(b []byte) (Change, int, bool) {
	if len(b) == 0 || b[0] > setMark {
		return Change{}, 0, false
	}
	gone, at := b[0] == goneMark, 1
	key, size, e := octet.ReadText(b[at:], api.MaxKey)
	if e != api.OK || len(key) == 0 {
		return Change{}, 0, false
	}
	at += size
	if gone {
		return Change{Key: string(key), Gone: true}, at, true
	}
	value, size, e := octet.ReadText(b[at:], api.MaxValue)
	if e != api.OK {
		return Change{}, 0, false
	}
	return Change{Key: string(key), Value: value}, at + size, true
}
