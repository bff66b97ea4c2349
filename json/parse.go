package json

import (
	"strings"
	"unicode/utf8"

	"hallmark/api"
)

// hexDigits is how many digits follow a \u.
const hexDigits = 4

// fault is what parsing is abandoned with: the input's first error, and its offset.
type fault struct {
	errno api.Errno
	at    int
}

// reader is a text and what has been read of it.
type reader struct {
	b     []byte
	at    int
	depth int
	items int
}

// Parse is the value that a text is.
func Parse(b []byte) (v Value, at int, e api.Errno) {
	if len(b) > api.MaxText {
		return Value{}, 0, api.ErrLimit
	}
	defer func() {
		if f, ok := recover().(fault); ok {
			v, at, e = Value{}, f.at, f.errno
		}
	}()
	r := &reader{b: b}
	v = r.value()
	r.blanks()
	if r.at < len(b) {
		panic(fault{api.ErrForm, r.at})
	}
	return v, 0, api.OK
}

// blanks passes over what may stand between two tokens.
func (r *reader) blanks() {
	for r.at < len(r.b) && strings.IndexByte(" \t\n\r", r.b[r.at]) >= 0 {
		r.at++
	}
}

// look is the next byte, which the input must have.
func (r *reader) look() byte {
	if r.at == len(r.b) {
		panic(fault{api.ErrShort, r.at})
	}
	return r.b[r.at]
}

// token is the next byte that isn't a blank.
func (r *reader) token() byte {
	r.blanks()
	return r.look()
}

// expect passes over a byte that must be this one.
func (r *reader) expect(c byte) {
	if r.look() != c {
		panic(fault{api.ErrForm, r.at})
	}
	r.at++
}

func (r *reader) value() Value {
	c := r.token()
	// One value too many is told ahead of what is wrong with it.
	if r.items == api.MaxItems {
		panic(fault{api.ErrLimit, r.at})
	}
	r.items++
	switch c {
	case 'n':
		return r.word("null", Null)
	case 'f':
		return r.word("false", False)
	case 't':
		return r.word("true", True)
	case '"':
		return Value{Kind: Text, Text: r.text()}
	case '[':
		return r.list()
	case '{':
		return r.object()
	}
	if c != '-' && !isDigit(c) {
		panic(fault{api.ErrForm, r.at})
	}
	return Value{Kind: Number, Num: r.number()}
}

func (r *reader) word(w string, kind int) Value {
	for i := range len(w) {
		r.expect(w[i])
	}
	return Value{Kind: kind}
}

func (r *reader) list() Value {
	v := Value{Kind: List}
	r.series(']', func() {
		v.Kids = append(v.Kids, r.value())
	})
	return v
}

func (r *reader) object() Value {
	v := Value{Kind: Object}
	seen := map[string]struct{}{}
	r.series('}', func() {
		name := r.name(seen)
		seen[name] = struct{}{}
		v.Names = append(v.Names, name)
		v.Kids = append(v.Kids, r.value())
	})
	return v
}

// series reads what stands in brackets, each part by a call of part.
func (r *reader) series(end byte, part func()) {
	if r.depth == api.MaxDepth {
		panic(fault{api.ErrDeep, r.at})
	}
	r.depth++
	r.at++
	if r.token() != end {
		part()
		for r.token() == ',' {
			r.at++
			part()
		}
	}
	r.expect(end)
	r.depth--
}

// name is a member's name, which must not have been seen; its colon is passed over.
func (r *reader) name(seen map[string]struct{}) string {
	r.token()
	start := r.at
	name := r.text()
	if _, twice := seen[name]; twice {
		panic(fault{api.ErrTwice, start})
	}
	r.token()
	r.expect(':')
	return name
}

func (r *reader) number() int {
	start := r.at
	for r.at < len(r.b) && isOfNumber(r.b[r.at]) {
		r.at++
	}
	n, ok := integer(string(r.b[start:r.at]))
	if !ok {
		panic(fault{api.ErrNumber, start})
	}
	return n
}

func isDigit(c byte) bool { return c >= '0' && c <= '9' }

func isOfNumber(c byte) bool {
	return isDigit(c) || strings.IndexByte("-+.eE", c) >= 0
}

// integer is the number that t writes, if it is an allowed one.
func integer(t string) (int, bool) {
	figures := strings.TrimPrefix(t, "-")
	if figures == "" || len(figures) > 1 && figures[0] == '0' {
		return 0, false
	}
	n := 0
	for i := range len(figures) {
		if !isDigit(figures[i]) {
			return 0, false
		}
		n = 10*n + int(figures[i]-'0')
		// Held against the limit at each digit, n can't overflow.
		if n > MaxNumber {
			return 0, false
		}
	}
	if len(figures) < len(t) {
		n = -n
	}
	return n, true
}

func (r *reader) text() string {
	r.expect('"')
	var t []byte
	for r.look() != '"' {
		t = utf8.AppendRune(t, r.character())
	}
	r.at++
	return string(t)
}

// character is a text's next character, whether it is written as it is or as an escape.
func (r *reader) character() rune {
	c := r.look()
	if c == '\\' {
		return r.escape()
	}
	if c < ' ' {
		panic(fault{api.ErrText, r.at})
	}
	x, size := utf8.DecodeRune(r.b[r.at:])
	// The replacement character itself has three bytes.
	if x == utf8.RuneError && size == 1 {
		panic(fault{api.ErrUTF8, r.at})
	}
	r.at += size
	return x
}

func (r *reader) escape() rune {
	start := r.at
	r.at++
	c := r.look()
	r.at++
	switch c {
	case '"', '\\', '/':
		return rune(c)
	case 'b':
		return '\b'
	case 'f':
		return '\f'
	case 'n':
		return '\n'
	case 'r':
		return '\r'
	case 't':
		return '\t'
	case 'u':
		return r.coded(start)
	}
	panic(fault{api.ErrEscape, start})
}

// coded is the character of the \u that has been read, and of a second one where they are a pair.
func (r *reader) coded(start int) rune {
	x := r.unit(start, false)
	if x < 0xd800 || x > 0xdbff {
		return x
	}
	for _, c := range []byte(`\u`) {
		if r.look() != c {
			panic(fault{api.ErrEscape, start})
		}
		r.at++
	}
	y := r.unit(start, true)
	return 0x10000 + (x-0xd800)<<10 + (y - 0xdc00)
}

// unit is the number of a \u; only the second one of a pair is from dc00 to dfff. What is wrong is told at the first digit that shows it, as the input may end after it.
func (r *reader) unit(start int, second bool) rune {
	x := rune(0)
	for i := range hexDigits {
		d, ok := hexDigit(r.look())
		x = x<<4 | d
		astray := i == 0 && second && x != 0xd || i == 1 && second != (x >= 0xdc && x <= 0xdf)
		if !ok || astray {
			panic(fault{api.ErrEscape, start})
		}
		r.at++
	}
	return x
}

func hexDigit(c byte) (rune, bool) {
	switch {
	case isDigit(c):
		return rune(c - '0'), true
	case c >= 'a' && c <= 'f':
		return rune(c-'a') + 10, true
	case c >= 'A' && c <= 'F':
		return rune(c-'A') + 10, true
	}
	return 0, false
}
