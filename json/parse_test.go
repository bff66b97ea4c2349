package json_test

import (
	"bytes"
	"fmt"
	"math/rand"
	"strings"
	"testing"

	"hallmark/api"
	"hallmark/json"
)

// parsed is what Parse answers, once it's seen that a value isn't told beside an error and that the argument is left as it was.
func parsed(t *testing.T, s string) (json.Value, int, api.Errno) {
	t.Helper()
	b := append([]byte(s), `"]}0 `...)
	v, at, e := json.Parse(b[:len(s)])
	if string(b) != s+`"]}0 ` {
		t.Errorf("Parse changed what it was given: %.60q", s)
	}
	if e != api.OK && !isZero(v) {
		t.Errorf("Parse(%.60q) tells a value beside error %d: %s", s, e, sketch(v))
	}
	if e == api.OK && at != 0 {
		t.Errorf("Parse(%.60q) tells the offset %d without an error", s, at)
	}
	return v, at, e
}

// accepts reports it unless Parse answers this value.
func accepts(t *testing.T, s string, want json.Value) {
	t.Helper()
	if v, at, e := parsed(t, s); e != api.OK || !same(v, want) {
		t.Errorf("Parse(%.60q) = %s, %d, %d", s, sketch(v), at, e)
	}
}

// refuses reports it unless Parse answers this error and offset.
func refuses(t *testing.T, s string, at int, e api.Errno) {
	t.Helper()
	if _, gotAt, got := parsed(t, s); gotAt != at || got != e {
		t.Errorf("Parse(%.60q) of %d bytes: error %d at %d, want %d at %d", s, len(s), got, gotAt, e, at)
	}
}

// agrees reports it unless Parse answers what the oracle does.
func agrees(t *testing.T, s string) api.Errno {
	t.Helper()
	at, e := scan(s)
	if e != api.OK {
		refuses(t, s, at, e)
	} else {
		accepts(t, s, decoded(s))
	}
	return e
}

func TestParse(t *testing.T) { // P6.1
	null, no, yes := json.Value{}, json.Value{Kind: json.False}, json.Value{Kind: json.True}
	for s, want := range map[string]json.Value{
		"null":                                 null,
		"false":                                no,
		"true":                                 yes,
		"0":                                    num(0),
		"-0":                                   num(0),
		"7":                                    num(7),
		"-2":                                   num(-2),
		"1234567890":                           num(1234567890),
		`""`:                                   text(""),
		`"a"`:                                  text("a"),
		"[]":                                   list(),
		"{}":                                   object(),
		"[1, -2]":                              list(num(1), num(-2)),
		`[null,true,false,"",0]`:               list(null, yes, no, text(""), num(0)),
		"[[],[[]],{}]":                         list(list(), list(list()), object()),
		`{"a":0}`:                              object("a"),
		`{"":0,"b":1,"a":2}`:                   object("", "b", "a"),
		`{"b":0,"a":1,"A":2}`:                  object("b", "a", "A"),
		`{"a":[{"a":0}]}`:                      {Kind: json.Object, Names: []string{"a"}, Kids: []json.Value{list(object("a"))}},
		"\r\n\t [ \t1\n,\r2 ] \n":              list(num(1), num(2)),
		"[ ]":                                  list(),
		" { } ":                                object(),
		` { "a" : 0 , "b" : 1 } `:              object("a", "b"),
		`[{"a":0},{"a":0,"b":1}]`:              list(object("a"), object("a", "b")),
		`"a\"\\\/\b\f\n\r\tz"`:                 text("a\"\\/\b\f\n\r\tz"),
		`"\u0000\u001f\u007f"`:                 text("\x00\x1f\x7f"),
		`"\u00e9\u00E9é"`:                      text("ééé"),
		`"\uabcd\uABCD\uefFE"`:                 text("\uabcd\uabcd\ueffe"),
		`"\ud83d\ude00\uD83D\uDE00"`:           text("\U0001f600\U0001f600"),
		"\"\x7f\u0080\ufffd\ufffe\U0010ffff\"": text("\x7f\u0080\ufffd\ufffe\U0010ffff"),
		`"null"`:                               text("null"),
		`"[1]"`:                                text("[1]"),
	} {
		accepts(t, s, want)
	}
}

func TestParseNumbers(t *testing.T) { // P6.1
	for s, want := range map[string]int{
		"9007199254740991": json.MaxNumber, "-9007199254740991": -json.MaxNumber, "9007199254740990": json.MaxNumber - 1, "1000000000000000": 1e15, "10": 10, "-10": -10,
	} {
		accepts(t, s, num(want))
	}
	if json.MaxNumber != 9007199254740991 {
		t.Errorf("MaxNumber = %d", json.MaxNumber)
	}
	long := strings.Repeat("9", 60000)
	for _, s := range []string{
		"01", "00", "-01", "-00", "-", "--1", "-+1", "1-", "1-2", "1+2", "1.", "1.0", "0.0", "1e0", "1E5", "0e", "-e", "1.5e-3", "-.", "0-",
		"9007199254740992", "-9007199254740992", "9007199254740999", "10000000000000000", "-10000000000000000",
		"9223372036854775807", "9223372036854775808", "18446744073709551616", "18446744073709551617", "-18446744073709551617", "90071992547409910", long, "-" + long, "0" + long, "1" + strings.Repeat("0", 60000),
	} {
		refuses(t, s, 0, api.ErrNumber)
		refuses(t, s+" ", 0, api.ErrNumber)
		refuses(t, s+"x", 0, api.ErrNumber)
		refuses(t, " ["+s+"]", 2, api.ErrNumber)
		refuses(t, "[0, "+s, 4, api.ErrNumber)
	}
	for _, s := range []string{"+1", ".5", "e1", "E1", "Infinity", "NaN"} {
		refuses(t, s, 0, api.ErrForm)
	}
	refuses(t, "0x1", 1, api.ErrForm)
	refuses(t, "1_0", 1, api.ErrForm)
	refuses(t, "[1 2]", 3, api.ErrForm)
	refuses(t, "-x", 0, api.ErrNumber)
	refuses(t, "[1", 2, api.ErrShort)
}

func TestParseForm(t *testing.T) { // P6.1
	for s, at := range map[string]int{
		"x": 0, "nul]": 3, "nulL": 3, "Null": 0, "nullx": 4, "null null": 5, "nullnull": 4, "tru e": 3, "truE": 3, "fals3": 4, "nx": 1, "TRUE": 0,
		"]": 0, "}": 0, ",": 0, ":": 0, "[1,]": 3, "[,1]": 1, "[1,,2]": 3, "[1;2]": 2, "[1}": 2, "[}": 1, "[1]]": 3, "[1],": 3, "[1:2]": 2, "[:]": 1,
		"{]": 1, "{,}": 1, "{1:2}": 1, "{a:1}": 1, "{'a':1}": 1, `{"a"}`: 4, `{"a",}`: 4, `{"a" 1}`: 5, `{"a":}`: 5, `{"a":,}`: 5, `{"a":1,}`: 7, `{"a":1 "b":2}`: 7, `{"a":1]`: 6, `{"a"::1}`: 5, `{"a":1}}`: 7, `{"a":1,,}`: 7, `{null:1}`: 1, "{[]:1}": 1,
		`""""`: 2, `"a"b`: 3, `"a" "b"`: 4, "'a'": 0, "1 2": 2, "// a\n1": 0, "1//": 1,
		"\x00": 0, "1\x00": 1, "\v1": 0, "\f1": 0, "1\v": 1, "\u00a01": 0, "\ufeff1": 0, "1\x1f": 1, "\xff": 0, "[\x80]": 1, "1é": 1, "\\": 0, "[1\\": 2,
	} {
		refuses(t, s, at, api.ErrForm)
	}
}

func TestParseShort(t *testing.T) { // P6.1
	for _, s := range []string{
		"", " ", "\n\t\r ", "n", "nul", "t", "tru", "f", "fals", "[", "[ ", "[1", "[1 ", "[1,", "[1, ", "[[]", "[[],[", "{", "{ ", `{"`, `{"a`, `{"a"`, `{"a" `, `{"a":`, `{"a": `, `{"a":1`, `{"a":1 `, `{"a":1,`, `{"a":1, `, `{"a":1,"b`, `{"a":{}`,
		`"`, `"ab`, `"é`, `"\`, `"\"`, `"\\\`, `"\u`, `"\u1`, `"\u12`, `"\u123`, `"\u1234`, `"\ud`, `"\uD7`, `"\ud8`, `"\udb`, `"\ud80`, `"\ud800`, `"\ud800\`, `"\ud800\u`, `"\ud800\ud`, `"\ud800\uDc`, `"\ud800\udf0`, `"\ud800\udc00`, `["\u00`, `{"\u`, `[nul`,
	} {
		refuses(t, s, len(s), api.ErrShort)
	}
}

func TestParseEscapes(t *testing.T) { // P6.1
	for s, at := range map[string]int{
		`"\a"`: 1, `"\0"`: 1, `"\x41"`: 1, `"\'"`: 1, `"\ "`: 1, `"\U0041"`: 1, `"\N"`: 1, "\"\\\n\"": 1, "\"\\\x00": 1, "\"\\é\"": 1, "\"\\\xff\"": 1, `"ab\q`: 3, `"\n\n\q"`: 5, `["a","\q"]`: 6, `{"\q":1}`: 2,
		`"\u"`: 1, `"\u1"`: 1, `"\u12"`: 1, `"\u123"`: 1, `"\ug000"`: 1, `"\u0g00"`: 1, `"\u00g0"`: 1, `"\u000g"`: 1, `"\u000G"`: 1, `"\u000:`: 1, `"\u000/`: 1, "\"\\u000`": 1, `"\u000@`: 1, `"\u-001"`: 1, `"\u+001"`: 1, `"\u 001"`: 1, "\"\\u\x01": 1, "\"\\u00\xff": 1, `"\u\u0000"`: 1,
		`"\ud800"`: 1, `"\ud800x"`: 1, `"\ud800\"`: 1, `"\ud800\n"`: 1, `"\ud800\\`: 1, `"\ud800\x`: 1, `"\ud800\U`: 1, `"\ud800u`: 1, "\"\\ud800\x01": 1, "\"\\ud800\xff": 1, "\"\\ud800\\\x01": 1, `"\ud800\u0`: 1, `"\ud800\ue`: 1, `"\ud800\u"`: 1, `"\ud800\ud7`: 1, `"\ud800\ud8`: 1, `"\ud800\uDB`: 1, `"\ud800\ud800"`: 1, `"\ud800\udbff"`: 1, `"\ud800\ue000"`: 1, `"\ud800\u0041"`: 1, `"\ud800\udcg`: 1, `"\ud800\udc0g`: 1, `"\ud800\udg`: 1, `"\udbff"`: 1, `"\uDBFF\u0000"`: 1, `"ab\ud800\n"`: 3,
		`"\udc`: 1, `"\udf`: 1, `"\uDE`: 1, `"\udc00"`: 1, `"\udfff"`: 1, `"\udc00\ud800"`: 1, `"\ud800\udc00\udc00"`: 13, `"\udc00\udc00"`: 1, `"a\uDC`: 2,
	} {
		refuses(t, s, at, api.ErrEscape)
	}
}

func TestParseEveryUnit(t *testing.T) { // P6.1
	for x := range 0x10000 {
		for _, form := range []string{`"\u%04x"`, `"\u%04X"`} {
			s := fmt.Sprintf(form, x)
			if x >= 0xd800 && x <= 0xdfff {
				refuses(t, s, 1, api.ErrEscape)
				continue
			}
			accepts(t, s, text(string(rune(x))))
		}
	}
	for c := rune(0x10000); c <= 0x10ffff; c++ {
		if c%7 < 6 && c&0x3ff > 1 && c&0x3ff < 0x3fe {
			continue
		}
		high, low := 0xd800+(c-0x10000)>>10, 0xdc00+(c-0x10000)&0x3ff
		accepts(t, fmt.Sprintf(`"\u%04x\u%04X"`, high, low), text(string(c)))
	}
}

func TestParseTextBytes(t *testing.T) { // P6.1
	for c := range 32 {
		for _, s := range []string{"", "a", "é", `\n`, `\u0001`} {
			refuses(t, `"`+s+string(rune(c))+`"`, 1+len(s), api.ErrText)
			refuses(t, `"`+s+string(rune(c)), 1+len(s), api.ErrText)
			refuses(t, `{"`+s+string(rune(c))+`":1}`, 2+len(s), api.ErrText)
		}
	}
	for c := rune(32); c <= 0x10ffff; c++ {
		if c != '"' && c != '\\' && (c < 0xd800 || c > 0xdfff) && (c < 0x3000 || c%61 == 0 || c&0xfff < 2 || c&0xfff > 0xffd) {
			accepts(t, `"`+string(c)+`"`, text(string(c)))
		}
	}
}

func TestParseUTF8(t *testing.T) { // P6.1
	for _, s := range []string{
		"\x80", "\xbf", "\xc0", "\xc1", "\xc2", "\xdf", "\xe0", "\xef", "\xf0", "\xf4", "\xf5", "\xff", "\xfe",
		"\xc0\x80", "\xc1\xbf", "\xc2\x7f", "\xc2\xc0", "\xc2é", "\xe0\x80\x80", "\xe0\x9f\xbf", "\xe2\x82", "\xe2\x82\x7f", "\xe2\x28\xa1", "\xed\xa0\x80", "\xed\xbf\xbf", "\xed\xa0\xbd\xed\xb8\x80", "\xef\xbf",
		"\xf0\x80\x80\x80", "\xf0\x8f\xbf\xbf", "\xf0\x9f\x98", "\xf0\x9f", "\xf4\x90\x80\x80", "\xf5\x80\x80\x80", "\xf8\x88\x80\x80\x80", "\xc2\\n", "\xe2\x82\x01",
	} {
		for _, ahead := range []string{"", "ab", "é", "\ufffd", `\n`} {
			at := 1 + len(ahead)
			refuses(t, `"`+ahead+s+`"`, at, api.ErrUTF8)
			refuses(t, `"`+ahead+s, at, api.ErrUTF8)
			refuses(t, `{"`+ahead+s+`":0}`, at+1, api.ErrUTF8)
		}
	}
	for x := range 0x10000 {
		two := string([]byte{byte(x >> 8), byte(x)})
		agrees(t, `"`+two+`"`)
		agrees(t, `"`+two)
	}
	for a := 0xe0; a < 0x100; a++ {
		for x := range 0x10000 {
			if y := x >> 8 & 0xf; y == 0 || y == 0xf {
				s := []byte{'"', byte(a), byte(x >> 8), byte(x), byte(x<<1) | 0x80, '"'}
				agrees(t, string(s))
			}
		}
	}
}

func TestParseTwice(t *testing.T) { // P6.1
	for s, at := range map[string]int{
		`{"a":1,"a":2}`: 7, `{"a":1,"a"`: 7, `{"a":1,"a"x`: 7, `{"a":1,"\u0061":2}`: 7, `{"\u0061":1, "a":2}`: 13, `{"":1,"":2}`: 6, `{"a":1,"b":2,"a":3}`: 13, `{"a":1,"b":2,"b":3}`: 13, `[{"a":1,"a":2}]`: 8,
		`{"a":{"a":1},"a":2}`: 13, `{"a":{"a":1,"a":2}}`: 12, `{"/":1,"\/":2}`: 7, `{"é":1,"\u00e9":2}`: 8, `{"\ud83d\ude00":1,"😀":2}`: 18,
	} {
		refuses(t, s, at, api.ErrTwice)
	}
	refuses(t, `{"a":1,"a`, 9, api.ErrShort)
	refuses(t, `{"a":1,"a\q"`, 9, api.ErrEscape)
	refuses(t, `{"a":x,"a":1}`, 5, api.ErrForm)
	accepts(t, `{"a":0,"A":1,"a ":2,"":3,"é":4}`, object("a", "A", "a ", "", "é"))
	accepts(t, `[{"a":0},{"a":0}]`, list(object("a"), object("a")))
	names := make([]string, 4095)
	var parts []string
	for i := range names {
		names[i] = fmt.Sprint(i)
		parts = append(parts, fmt.Sprintf(`"%d":%d`, i, i))
	}
	s := "{" + strings.Join(parts, ",")
	accepts(t, s+"}", object(names...))
	refuses(t, s+`,"0"`, len(s)+1, api.ErrTwice)
	refuses(t, s+`,"4094"`, len(s)+1, api.ErrTwice)
}

func TestParseDepth(t *testing.T) { // P6.1
	open, shut := strings.Repeat("[", 16), strings.Repeat("]", 16)
	accepts(t, open+shut, nested(list(), 15))
	accepts(t, open+`1,"[[[[["`+shut, nested(list(num(1), text("[[[[[")), 15))
	refuses(t, open+"[", 16, api.ErrDeep)
	refuses(t, open+"[]"+shut, 16, api.ErrDeep)
	refuses(t, open+"{", 16, api.ErrDeep)
	refuses(t, open+"0, {", 19, api.ErrDeep)
	refuses(t, strings.Repeat(" [", 17), 33, api.ErrDeep)
	refuses(t, open+"x", 16, api.ErrForm)
	refuses(t, strings.Repeat("[", 65536), 16, api.ErrDeep)
	refuses(t, strings.Repeat(`{"a":`, 17), 80, api.ErrDeep)
	refuses(t, strings.Repeat(`{"a":`, 16)+"[", 80, api.ErrDeep)
	refuses(t, strings.Repeat(`[{"a":`, 8)+"[", 48, api.ErrDeep)
	refuses(t, strings.Repeat(`[{"a":`, 8), 48, api.ErrShort)
	if e := agrees(t, strings.Repeat(`[{"a":`, 8)+"0"+strings.Repeat("}]", 8)); e != api.OK {
		t.Errorf("16 lists and objects: %d", e)
	}
	// Lists that follow each other aren't in one another.
	inner := strings.Repeat("[", 15) + strings.Repeat("]", 15)
	many := "[" + inner + strings.Repeat(","+inner, 20) + strings.Repeat(",[{}]", 20) + "]"
	if e := agrees(t, many); e != api.OK {
		t.Errorf("many lists of depth 16: %d", e)
	}
	refuses(t, "["+inner+","+strings.Repeat("[", 16), 32+15, api.ErrDeep)
}

func TestParseLength(t *testing.T) { // P6.1
	blank := strings.Repeat(" ", 65536)
	accepts(t, "1"+blank[1:], num(1))
	accepts(t, blank[1:]+"1", num(1))
	accepts(t, `"`+strings.Repeat("a", 65534)+`"`, text(strings.Repeat("a", 65534)))
	refuses(t, blank, 65536, api.ErrShort)
	refuses(t, blank[1:]+"x", 65535, api.ErrForm)
	refuses(t, `"`+strings.Repeat("a", 65535), 65536, api.ErrShort)
	for _, s := range []string{"1", "x", "]", "\xff", "[[[[[[[[[[[[[[[[[[", `{"a":1,"a":1}`, "01", `"\q"`, "\"\x01"} {
		refuses(t, s+blank[len(s)-1:], 0, api.ErrLimit)
		refuses(t, blank+s, 0, api.ErrLimit)
	}
	refuses(t, strings.Repeat("x", 1<<20), 0, api.ErrLimit)
	refuses(t, blank+" ", 0, api.ErrLimit)
}

func TestParseItems(t *testing.T) { // P6.1
	// full has had MaxItems values, its own list among them, and goes on.
	full := "[" + strings.Repeat("0,", 4095)
	zeros := make([]json.Value, 4095)
	for i := range zeros {
		zeros[i] = num(0)
	}
	accepts(t, full[:len(full)-1]+"]", list(zeros...))
	for _, s := range []string{
		"0]", "]", "}", "x", ",", ":", "-", "01", "1.5", "null", "nul", "nux", `"a"`, `"ab`, "\"\x01", "\"\xff", `"\q"`, "[", "{", "[]", "\xff", "\x00",
	} {
		refuses(t, full+s, len(full), api.ErrLimit)
		refuses(t, full+" \n"+s, len(full)+2, api.ErrLimit)
	}
	refuses(t, full, len(full), api.ErrShort)
	refuses(t, full+" ", len(full)+1, api.ErrShort)
	short := full[:len(full)-1]
	refuses(t, short, len(short), api.ErrShort)
	refuses(t, short+";", len(short), api.ErrForm)
	refuses(t, short+"}", len(short), api.ErrForm)
	refuses(t, short+"]0", len(short)+1, api.ErrForm)
	refuses(t, short+"],", len(short)+1, api.ErrForm)

	// The last value that is allowed may be an empty list, and must then be empty.
	last := full[:len(full)-2]
	if e := agrees(t, last+"[]]"); e != api.OK {
		t.Errorf("an empty list as the last value: %d", e)
	}
	if e := agrees(t, last+"{ }]"); e != api.OK {
		t.Errorf("an empty object as the last value: %d", e)
	}
	refuses(t, last+"[0", len(last)+1, api.ErrLimit)
	refuses(t, last+"[x", len(last)+1, api.ErrLimit)
	refuses(t, last+"[", len(last)+1, api.ErrShort)
	refuses(t, last+`{x`, len(last)+1, api.ErrForm)
	refuses(t, last+`{"a":}`, len(last)+5, api.ErrLimit)
	refuses(t, last+`{"a"}`, len(last)+4, api.ErrForm)
	refuses(t, last+`{"a":`, len(last)+5, api.ErrShort)
	refuses(t, last+"01", len(last), api.ErrNumber)

	// Names aren't values, and a list too deep is one value too many first.
	var parts []string
	for i := range 4095 {
		parts = append(parts, fmt.Sprintf(`"%d":[]`, i))
	}
	members := "{" + strings.Join(parts, ",")
	if e := agrees(t, members+"}"); e != api.OK {
		t.Errorf("an object of MaxItems values: %d", e)
	}
	refuses(t, members+`,"1"`, len(members)+1, api.ErrTwice)
	refuses(t, members+`,"x":0}`, len(members)+5, api.ErrLimit)
	refuses(t, members+`,1`, len(members)+1, api.ErrForm)
	refuses(t, members+`,}`, len(members)+1, api.ErrForm)
	refuses(t, members+`,"x"`, len(members)+4, api.ErrShort)
	deep := strings.Repeat("[", 16) + strings.Repeat("0,", 4080)
	refuses(t, deep+"[", len(deep), api.ErrLimit)
	refuses(t, deep[:len(deep)-2]+"[", len(deep)-2, api.ErrDeep)
	refuses(t, strings.Repeat("[", 16)+"["+full, 16, api.ErrDeep)
}

func TestParseShortTexts(t *testing.T) { // P6.1: all texts of few bytes out of these
	all := "[]{},:\"\\a0- n"
	errs := map[api.Errno]int{}
	var grow func(s string, left int)
	grow = func(s string, left int) {
		errs[agrees(t, s)]++
		if left == 0 {
			return
		}
		for i := range len(all) {
			grow(s+all[i:i+1], left-1)
		}
	}
	grow("", 4)
	grow(`"\ud8`, 3)
	grow(`{"a":0`, 4)
	grow(`{"a":0,"`, 3)
	grow(`{"`, 4)
	for _, e := range []api.Errno{api.OK, api.ErrForm, api.ErrShort, api.ErrNumber, api.ErrEscape, api.ErrTwice} {
		if errs[e] == 0 {
			t.Errorf("no text had error %d", e)
		}
	}
}

func TestParseEveryNextByte(t *testing.T) { // P6.1: each beginning of these, cut off and with each byte behind it
	for _, s := range []string{
		`{"a":[1,-20,null,true,false],"b\n\/\u00e9\ud83d\ude00":{"é":"€😀","":[]},"c":{}} `,
		` [ 9007199254740991 , { "x" : [ ] , "y" : "\"\\\b\f\r\t" } ]`,
		`"\uD7fF\uDbfF\uDffF\uE000"`,
	} {
		for i := range len(s) + 1 {
			agrees(t, s[:i])
			for c := range 256 {
				agrees(t, s[:i]+string([]byte{byte(c)}))
				agrees(t, s[:i]+string([]byte{byte(c)})+s[min(i+1, len(s)):])
			}
		}
	}
}

func TestParseRandom(t *testing.T) { // P6.1, P6.4
	r := rand.New(rand.NewSource(6))
	for range 20000 {
		v := random(r, 5)
		s := loose(r, v)
		accepts(t, s, v)
		agrees(t, s)
		for range 3 {
			agrees(t, altered(r, s))
		}
	}
}

// altered is s with a few changes.
func altered(r *rand.Rand, s string) string {
	parts := []string{"", ",", ":", `"`, "[", "]", "{", "}", " ", "0", "-", ".", `\`, "u", `\u`, `\ud800`, `\udc00`, "null", "\x00", "\x1f", "\x80", "\xc3", "\xe2\x82", "a"}
	for range 1 + r.Intn(2) {
		i := r.Intn(len(s) + 1)
		j := min(len(s), i+r.Intn(3))
		s = s[:i] + parts[r.Intn(len(parts))] + s[j:]
	}
	return s
}

func TestParseIsNewMemory(t *testing.T) { // R3, R5
	s := `{"ab":["cd",{"ef":"gh","ij":[1,2,3]},[],[[4],[5,6]]],"kl":{"mn":1,"op":2,"qr":3}}`
	b := []byte(s)
	v, _, e := json.Parse(b)
	if e != api.OK || shared(spans(v)) {
		t.Errorf("slices of a value share memory: %d", e)
	}
	want := decoded(s)
	w, _, _ := json.Parse(b)
	clear(b)
	if !same(v, want) {
		t.Error("the value changed with the argument")
	}
	v.Kids[0].Kids[1].Names[0] = "x"
	v.Kids[0].Kids[0] = num(1)
	if !same(w, want) {
		t.Error("the value changed with that of another call")
	}
	if !bytes.Equal(b, make([]byte, len(s))) {
		t.Error("the argument was written to after the call")
	}
}

func TestParseKeepsWithinLength(t *testing.T) { // P6.1, R3: what stands beyond the length isn't the input's
	for s, n := range map[string]int{`"abc"`: 4, "null": 3, "[1]": 2, `"\n"`: 2} {
		if _, at, e := json.Parse([]byte(s)[:n]); at != n || e != api.ErrShort {
			t.Errorf("%q cut to %d bytes: %d at %d", s, n, e, at)
		}
	}
	if _, at, e := json.Parse([]byte(`"é"`)[:2]); at != 1 || e != api.ErrUTF8 {
		t.Errorf("a character that is cut off: %d at %d", e, at)
	}
	if v, _, e := json.Parse([]byte("123")[:2]); e != api.OK || v.Num != 12 {
		t.Errorf("a number that is cut off: %d, %d", v.Num, e)
	}
	if v, at, e := json.Parse(nil); at != 0 || e != api.ErrShort || !isZero(v) {
		t.Errorf("nil: %d at %d", e, at)
	}
	if _, at, e := json.Parse([]byte{}); at != 0 || e != api.ErrShort {
		t.Errorf("no bytes: %d at %d", e, at)
	}
}
