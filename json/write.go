package json

import (
	"strconv"
	"unicode/utf8"

	"hallmark/api"
)

const digits = "0123456789abcdef"

// Write is a value as a text.
func Write(v Value) ([]byte, api.Errno) {
	c := checker{}
	if !c.valid(v) {
		return nil, api.ErrArg
	}
	b := appendValue(nil, v)
	if len(b) > api.MaxText {
		return nil, api.ErrLimit
	}
	return b, api.OK
}

// checker is how many values have been checked, and how many lists and objects are around the next one.
type checker struct {
	items int
	depth int
}

func (c *checker) valid(v Value) bool {
	c.items++
	if c.items > api.MaxItems || !isSound(v) {
		return false
	}
	if v.Kind != List && v.Kind != Object {
		return true
	}
	// As no more depth and no more values than allowed are gone through, a value that holds itself comes to an end, too.
	if c.depth == api.MaxDepth || v.Kind == Object && !areNames(v.Names, len(v.Kids)) {
		return false
	}
	c.depth++
	for _, k := range v.Kids {
		if !c.valid(k) {
			return false
		}
	}
	c.depth--
	return true
}

// isSound reports whether v has what is asked of it without its kids.
func isSound(v Value) bool {
	isKind := v.Kind >= Null && v.Kind <= Object
	isNumber := v.Num >= -MaxNumber && v.Num <= MaxNumber
	return isKind && isNumber && utf8.ValidString(v.Text)
}

// areNames reports whether these can be the names of so many kids.
func areNames(names []string, kids int) bool {
	if len(names) != kids {
		return false
	}
	seen := map[string]struct{}{}
	for _, n := range names {
		if _, twice := seen[n]; twice || !utf8.ValidString(n) {
			return false
		}
		seen[n] = struct{}{}
	}
	return true
}

// appendValue is b with the text of v behind it.
func appendValue(b []byte, v Value) []byte {
	switch v.Kind {
	case False:
		return append(b, "false"...)
	case True:
		return append(b, "true"...)
	case Number:
		return strconv.AppendInt(b, int64(v.Num), 10)
	case Text:
		return appendText(b, v.Text)
	case List:
		return appendKids(append(b, '['), v, ']')
	case Object:
		return appendKids(append(b, '{'), v, '}')
	}
	return append(b, "null"...)
}

func appendKids(b []byte, v Value, end byte) []byte {
	for i, k := range v.Kids {
		if i > 0 {
			b = append(b, ',')
		}
		if v.Kind == Object {
			b = append(appendText(b, v.Names[i]), ':')
		}
		b = appendValue(b, k)
	}
	return append(b, end)
}

func appendText(b []byte, t string) []byte {
	b = append(b, '"')
	for i := range len(t) {
		// What is refused for its length anyway need not be built whole.
		if len(b) > api.MaxText {
			break
		}
		b = appendByte(b, t[i])
	}
	return append(b, '"')
}

// appendByte is b with a byte of a text behind it, as an escape where it needs one.
func appendByte(b []byte, c byte) []byte {
	switch c {
	case '"', '\\':
		return append(b, '\\', c)
	case '\b':
		return append(b, '\\', 'b')
	case '\f':
		return append(b, '\\', 'f')
	case '\n':
		return append(b, '\\', 'n')
	case '\r':
		return append(b, '\\', 'r')
	case '\t':
		return append(b, '\\', 't')
	}
	if c < ' ' {
		return append(b, '\\', 'u', '0', '0', digits[c>>4], digits[c&15])
	}
	return append(b, c)
}
