package json_test

import (
	stdjson "encoding/json"
	"fmt"
	"math/big"
	"math/rand"
	"regexp"
	"slices"
	"strings"
	"testing"
	"unsafe"

	"hallmark/api"
	"hallmark/json"
)

// The oracle below finds an input's error with a stack of open brackets and with expressions of the library, and reads the values of inputs without errors by the library's own package. It uses nothing of the package that it checks but the type Value.

var (
	numberRun   = regexp.MustCompile(`^[-0-9][-+.eE0-9]*`)
	goodNumber  = regexp.MustCompile(`^-?(0|[1-9][0-9]*)$`)
	wholeEscape = regexp.MustCompile(`^\\(["\\/bfnrt]|u([0-9abcefABCEF][0-9a-fA-F]{3}|[dD][0-7][0-9a-fA-F]{2}|[dD][89abAB][0-9a-fA-F]{2}\\u[dD][c-fC-F][0-9a-fA-F]{2}))$`)
)

// sequences are the rows of Unicode's table of the well-formed byte sequences in UTF-8, each byte as its first and last value.
var sequences = [][][2]byte{
	{{0x00, 0x7f}},
	{{0xc2, 0xdf}, {0x80, 0xbf}},
	{{0xe0, 0xe0}, {0xa0, 0xbf}, {0x80, 0xbf}},
	{{0xe1, 0xec}, {0x80, 0xbf}, {0x80, 0xbf}},
	{{0xed, 0xed}, {0x80, 0x9f}, {0x80, 0xbf}},
	{{0xee, 0xef}, {0x80, 0xbf}, {0x80, 0xbf}},
	{{0xf0, 0xf0}, {0x90, 0xbf}, {0x80, 0xbf}, {0x80, 0xbf}},
	{{0xf1, 0xf3}, {0x80, 0xbf}, {0x80, 0xbf}, {0x80, 0xbf}},
	{{0xf4, 0xf4}, {0x80, 0x8f}, {0x80, 0xbf}, {0x80, 0xbf}},
}

// sequence is the length of the well-formed sequence that s begins with, or 0.
func sequence(s string) int {
	for _, row := range sequences {
		fits := len(s) >= len(row)
		for i, r := range row {
			fits = fits && s[i] >= r[0] && s[i] <= r[1]
		}
		if fits {
			return len(row)
		}
	}
	return 0
}

func isUTF8(s string) bool {
	for len(s) > 0 {
		n := sequence(s)
		if n == 0 {
			return false
		}
		s = s[n:]
	}
	return true
}

// continues reports whether an escape can begin with s.
func continues(s string) bool {
	for _, whole := range []string{`\"`, `\u0000`, `\ud000`, `\ud800\udc00`} {
		if len(s) <= len(whole) && wholeEscape.MatchString(s+whole[len(s):]) {
			return true
		}
	}
	return false
}

// scanEscape is the end of the escape at i, or where and how it fails.
func scanEscape(b string, i int) (end, at int, e api.Errno) {
	for j := i + 1; j <= len(b); j++ {
		if wholeEscape.MatchString(b[i:j]) {
			return j, 0, api.OK
		}
		if !continues(b[i:j]) {
			return 0, i, api.ErrEscape
		}
	}
	return 0, len(b), api.ErrShort
}

// scanText is the end of the text whose " is at i, or where and how it fails.
func scanText(b string, i int) (end, at int, e api.Errno) {
	for i++; i < len(b); {
		switch {
		case b[i] == '"':
			return i + 1, 0, api.OK
		case b[i] < 32:
			return 0, i, api.ErrText
		case b[i] == '\\':
			end, at, e = scanEscape(b, i)
			if e != api.OK {
				return 0, at, e
			}
			i = end
		case sequence(b[i:]) == 0:
			return 0, i, api.ErrUTF8
		default:
			i += sequence(b[i:])
		}
	}
	return 0, len(b), api.ErrShort
}

// scanWord is the end of the word at i, or where and how it fails.
func scanWord(b string, i int, word string) (end, at int, e api.Errno) {
	for j := range len(word) {
		if i+j == len(b) {
			return 0, i + j, api.ErrShort
		}
		if b[i+j] != word[j] {
			return 0, i + j, api.ErrForm
		}
	}
	return i + len(word), 0, api.OK
}

func isAllowed(number string) bool {
	n, ok := new(big.Int).SetString(number, 10)
	most := new(big.Int).Sub(new(big.Int).Lsh(big.NewInt(1), 53), big.NewInt(1))
	return ok && goodNumber.MatchString(number) && n.CmpAbs(most) <= 0
}

// scanPlain is the end of the value at i that is neither a list nor an object, or where and how it fails.
func scanPlain(b string, i int) (end, at int, e api.Errno) {
	switch b[i] {
	case 'n':
		return scanWord(b, i, "null")
	case 't':
		return scanWord(b, i, "true")
	case 'f':
		return scanWord(b, i, "false")
	case '"':
		return scanText(b, i)
	}
	run := numberRun.FindString(b[i:])
	switch {
	case run == "":
		return 0, i, api.ErrForm
	case !isAllowed(run):
		return 0, i, api.ErrNumber
	}
	return i + len(run), 0, api.OK
}

// What the oracle's machine waits for.
const (
	wantValue = iota
	wantFirst
	wantName
	wantFirstName
	wantColon
	wantMore
)

// bracket is one that is open, and the names that have occurred in it.
type bracket struct {
	end   byte
	names map[string]bool
}

// scan is the offset and the error of an input.
func scan(b string) (int, api.Errno) {
	if len(b) > 65536 {
		return 0, api.ErrLimit
	}
	var open []bracket
	items, want := 0, wantValue
	for i := 0; ; {
		i += len(b[i:]) - len(strings.TrimLeft(b[i:], " \t\n\r"))
		if i == len(b) && want == wantMore && len(open) == 0 {
			return 0, api.OK
		}
		if i == len(b) {
			return i, api.ErrShort
		}
		c := b[i]
		var top bracket
		if len(open) > 0 {
			top = open[len(open)-1]
		}
		if want != wantValue && want != wantName && want != wantColon && c == top.end && len(open) > 0 {
			open, want = open[:len(open)-1], wantMore
			i++
			continue
		}
		switch want {
		case wantMore:
			if c != ',' || len(open) == 0 {
				return i, api.ErrForm
			}
			want = map[byte]int{']': wantValue, '}': wantName}[top.end]
			i++
		case wantColon:
			if c != ':' {
				return i, api.ErrForm
			}
			want = wantValue
			i++
		case wantName, wantFirstName:
			if c != '"' {
				return i, api.ErrForm
			}
			end, at, e := scanText(b, i)
			if e != api.OK {
				return at, e
			}
			name := unquoted(b[i:end])
			if top.names[name] {
				return i, api.ErrTwice
			}
			top.names[name] = true
			i, want = end, wantColon
		case wantValue, wantFirst:
			if items++; items > 4096 {
				return i, api.ErrLimit
			}
			if c == '[' || c == '{' {
				if len(open) == 16 {
					return i, api.ErrDeep
				}
				// In ASCII a bracket's end stands two behind it.
				open = append(open, bracket{c + 2, map[string]bool{}})
				want = map[byte]int{'[': wantFirst, '{': wantFirstName}[c]
				i++
				continue
			}
			end, at, e := scanPlain(b, i)
			if e != api.OK {
				return at, e
			}
			i, want = end, wantMore
		}
	}
}

func unquoted(text string) string {
	var s string
	if err := stdjson.Unmarshal([]byte(text), &s); err != nil {
		panic(err)
	}
	return s
}

// decoded is the value of an input that has no error.
func decoded(b string) json.Value {
	d := stdjson.NewDecoder(strings.NewReader(b))
	d.UseNumber()
	return next(d)
}

func next(d *stdjson.Decoder) json.Value {
	t, err := d.Token()
	if err != nil {
		panic(err)
	}
	switch x := t.(type) {
	case nil:
		return json.Value{Kind: 0}
	case bool:
		if x {
			return json.Value{Kind: 2}
		}
		return json.Value{Kind: 1}
	case stdjson.Number:
		n, _ := x.Int64()
		return json.Value{Kind: 3, Num: int(n)}
	case string:
		return json.Value{Kind: 4, Text: x}
	}
	v := json.Value{Kind: 5}
	if t == stdjson.Delim('{') {
		v.Kind = 6
	}
	for d.More() {
		if v.Kind == 6 {
			name, _ := d.Token()
			v.Names = append(v.Names, name.(string))
		}
		v.Kids = append(v.Kids, next(d))
	}
	d.Token()
	return v
}

// quoted is a text as it must be written.
func quoted(s string) string {
	pairs := []string{`"`, `\"`, `\`, `\\`, "\b", `\b`, "\f", `\f`, "\n", `\n`, "\r", `\r`, "\t", `\t`}
	for c := range 32 {
		if !slices.Contains(pairs, string(rune(c))) {
			pairs = append(pairs, string(rune(c)), fmt.Sprintf(`\u%04x`, c))
		}
	}
	return `"` + strings.NewReplacer(pairs...).Replace(s) + `"`
}

// written is a value as it must be written.
func written(v json.Value) string {
	var parts []string
	for i, k := range v.Kids {
		if v.Kind == 6 {
			parts = append(parts, quoted(v.Names[i])+":"+written(k))
		} else if v.Kind == 5 {
			parts = append(parts, written(k))
		}
	}
	all := strings.Join(parts, ",")
	return []string{"null", "false", "true", fmt.Sprint(v.Num), quoted(v.Text), "[" + all + "]", "{" + all + "}"}[v.Kind]
}

// same reports whether two values are alike in every field; nil and empty slices are.
func same(a, b json.Value) bool {
	return a.Kind == b.Kind && a.Num == b.Num && a.Text == b.Text && slices.Equal(a.Names, b.Names) && slices.EqualFunc(a.Kids, b.Kids, same)
}

func isZero(v json.Value) bool { return same(v, json.Value{}) }

// span is the memory of a slice with its spare capacity.
type span struct{ from, to uintptr }

func spanOf[T any](l []T) span {
	var t T
	from := uintptr(unsafe.Pointer(unsafe.SliceData(l)))
	return span{from, from + uintptr(cap(l))*unsafe.Sizeof(t)}
}

// spans are the memories of all slices of a value.
func spans(v json.Value) []span {
	l := []span{spanOf(v.Names), spanOf(v.Kids)}
	for _, k := range v.Kids {
		l = append(l, spans(k)...)
	}
	return l
}

// shared reports whether two of these memories have a byte in common.
func shared(l []span) bool {
	l = slices.DeleteFunc(slices.Clone(l), func(s span) bool { return s.from == s.to })
	slices.SortFunc(l, func(a, b span) int {
		if a.from < b.from {
			return -1
		}
		return 1
	})
	for i := range len(l) - 1 {
		if l[i].to > l[i+1].from {
			return true
		}
	}
	return false
}

// sketch says of a value what a test's report needs of it.
func sketch(v json.Value) string {
	s := fmt.Sprintf("%+v", v)
	return s[:min(len(s), 200)]
}

// Building blocks of values.

func num(n int) json.Value { return json.Value{Kind: json.Number, Num: n} }

func text(s string) json.Value { return json.Value{Kind: json.Text, Text: s} }

func list(kids ...json.Value) json.Value { return json.Value{Kind: json.List, Kids: kids} }

// object is one with these names, and kids that are numbered from 0.
func object(names ...string) json.Value {
	v := json.Value{Kind: json.Object, Names: names}
	for i := range names {
		v.Kids = append(v.Kids, num(i))
	}
	return v
}

// nested is a value in so many lists.
func nested(v json.Value, levels int) json.Value {
	for range levels {
		v = list(v)
	}
	return v
}

// random is some valid value, at most so deep.
func random(r *rand.Rand, depth int) json.Value {
	switch k := r.Intn(9); {
	case k < 3:
		return json.Value{Kind: k}
	case k == 3:
		return num(r.Intn(2001) - 1000)
	case k == 4:
		return num((1<<53 - 1 - r.Intn(3)) * (1 - 2*r.Intn(2)))
	case k < 7 || depth == 0:
		return text(randomText(r))
	default:
		v := json.Value{Kind: k - 2}
		for i := range r.Intn(5) {
			v.Kids = append(v.Kids, random(r, depth-1))
			if v.Kind == json.Object {
				v.Names = append(v.Names, fmt.Sprint(randomText(r), i))
			}
		}
		return v
	}
}

func randomText(r *rand.Rand) string {
	all := []rune("aZ09 /\"\\\b\f\n\r\t\x00\x01\x1f\x7f\u0080é\u07ff\u0800\u2028\ud7ff\ue000\ufffd\uffff\U00010000\U0001f600\U0010ffff")
	var t []rune
	for range r.Intn(6) {
		t = append(t, all[r.Intn(len(all))])
	}
	return string(t)
}

// loose is a value as a text with blanks and escapes that needn't be there.
func loose(r *rand.Rand, v json.Value) string {
	var parts []string
	for i, k := range v.Kids {
		part := blanks(r) + loose(r, k) + blanks(r)
		if v.Kind == json.Object {
			part = blanks(r) + looseText(r, v.Names[i]) + blanks(r) + ":" + part
		}
		parts = append(parts, part)
	}
	all := strings.Join(parts, ",")
	if all == "" {
		all = blanks(r)
	}
	switch v.Kind {
	case json.Text:
		return looseText(r, v.Text)
	case json.List:
		return "[" + all + "]"
	case json.Object:
		return "{" + all + "}"
	}
	return written(v)
}

func blanks(r *rand.Rand) string {
	return []string{"", "", "", " ", "\t", "\n", "\r", " \r\n\t "}[r.Intn(8)]
}

func looseText(r *rand.Rand, s string) string {
	var b strings.Builder
	b.WriteByte('"')
	for _, c := range s {
		form := []string{`\u%04x`, `\u%04X`}[r.Intn(2)]
		switch {
		case c == '/' && r.Intn(2) == 0:
			b.WriteString(`\/`)
		case r.Intn(3) > 0:
			b.WriteString(strings.Trim(quoted(string(c)), `"`))
			if c == '"' {
				b.WriteByte('"')
			}
		case c < 0x10000:
			fmt.Fprintf(&b, form, c)
		default:
			fmt.Fprintf(&b, form+form, 0xd800+(c-0x10000)>>10, 0xdc00+(c-0x10000)&0x3ff)
		}
	}
	b.WriteByte('"')
	return b.String()
}

func TestOracle(t *testing.T) { // the examples of the chapter hold for what the other tests hold the package against
	for _, c := range []struct {
		b  string
		at int
		e  api.Errno
	}{
		{`[1, -2]`, 0, api.OK}, {"01", 0, api.ErrNumber}, {"[1,]", 3, api.ErrForm}, {`{"a":1,"a":2}`, 7, api.ErrTwice},
		{`"\ud800"`, 1, api.ErrEscape}, {`"ab`, 3, api.ErrShort}, {"", 0, api.ErrShort},
	} {
		if at, e := scan(c.b); at != c.at || e != c.e {
			t.Errorf("%q: %d, %d", c.b, at, e)
		}
	}
	if got := written(text("\x01é")); got != `"\u0001é"` {
		t.Errorf("%q", got)
	}
}
