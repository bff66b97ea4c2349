package json_test

import (
	"fmt"
	"math"
	"math/rand"
	"slices"
	"strings"
	"testing"

	"hallmark/api"
	"hallmark/json"
)

// writes reports it unless Write answers this text.
func writes(t *testing.T, v json.Value, want string) {
	t.Helper()
	if b, e := json.Write(v); e != api.OK || string(b) != want {
		t.Errorf("Write(%s) = %.200q, %d, want %.200q", sketch(v), b, e, want)
	}
}

// writesNot reports it unless Write answers this error alone.
func writesNot(t *testing.T, what string, v json.Value, want api.Errno) {
	t.Helper()
	if b, e := json.Write(v); e != want || len(b) > 0 {
		t.Errorf("Write of %s: %d bytes, %d", what, len(b), e)
	}
}

func TestWrite(t *testing.T) { // P6.2
	for want, v := range map[string]json.Value{
		"null":              {},
		"false":             {Kind: json.False},
		"true":              {Kind: json.True},
		"0":                 num(0),
		"10":                num(10),
		"-1":                num(-1),
		"9007199254740991":  num(json.MaxNumber),
		"-9007199254740991": num(-json.MaxNumber),
		`""`:                text(""),
		`"a b"`:             text("a b"),
		"[]":                list(),
		"[1]":               list(num(1)),
		"[1,-2,[],{}]":      list(num(1), num(-2), list(), object()),
		"{}":                object(),
		`{"b":0,"a":1}`:     object("b", "a"),
		`{"":0}`:            object(""),
		`{"\n\"é":0}`:       object("\n\"é"),
		`"\u0001é"`:         text("\x01é"),
		`"\"\\/'"`:          text(`"\/'`),
		`"\b\f\n\r\t"`:      text("\b\f\n\r\t"),
		"\"\x7f<>&\u0080\u2028\u2029\ufffd\U0010ffff\"": text("\x7f<>&\u0080\u2028\u2029\ufffd\U0010ffff"),
		`[{"a":0},"[]",{"b":0,"c":1}]`:                  list(object("a"), text("[]"), object("b", "c")),
	} {
		writes(t, v, want)
	}
}

func TestWriteKinds(t *testing.T) { // P6.2: the numbers of the kinds
	for k, want := range []string{"null", "false", "true", "0", `""`, "[]", "{}"} {
		writes(t, json.Value{Kind: k}, want)
	}
	if got := []int{json.Null, json.False, json.True, json.Number, json.Text, json.List, json.Object}; !slices.Equal(got, []int{0, 1, 2, 3, 4, 5, 6}) {
		t.Errorf("the kinds are %v", got)
	}
}

func TestWriteEveryCharacter(t *testing.T) { // P6.2
	for c := range rune(0x3000) {
		writes(t, text(string(c)), quoted(string(c)))
		writes(t, object("a"+string(c)), "{"+quoted("a"+string(c))+":0}")
	}
}

func TestWriteLeavesOut(t *testing.T) { // P6.2: fields of other kinds are neither checked nor written
	kids := []json.Value{num(1), {Kind: 99, Text: "\xff"}}
	names := []string{"a", "a", "\xff"}
	for k, want := range map[int]string{json.Null: "null", json.False: "false", json.True: "true", json.Number: "5", json.Text: `"t"`} {
		writes(t, json.Value{Kind: k, Num: 5, Text: "t", Names: names, Kids: kids}, want)
		writes(t, list(json.Value{Kind: k, Num: 5, Text: "t", Names: names, Kids: kids}), "["+want+"]")
	}
	writes(t, json.Value{Kind: json.List, Num: 5, Text: "t", Names: names, Kids: kids[:1]}, "[1]")
	writes(t, json.Value{Kind: json.Object, Num: 5, Text: "t", Names: names[:1], Kids: kids[:1]}, `{"a":1}`)
	// Nor do kids that are left out count as values or as nesting.
	many := json.Value{Kind: json.Text, Kids: make([]json.Value, 5000), Names: make([]string, 5000)}
	writes(t, many, `""`)
	writes(t, json.Value{Kind: json.Null, Kids: []json.Value{nested(num(1), 20)}}, "null")
	writes(t, nested(json.Value{Kind: json.True, Kids: []json.Value{list()}}, 16), strings.Repeat("[", 16)+"true"+strings.Repeat("]", 16))
}

func TestWriteRefuses(t *testing.T) { // P6.2
	bad := map[string]json.Value{
		"kind -1":                             {Kind: -1},
		"kind 7":                              {Kind: 7},
		"the least kind":                      {Kind: math.MinInt},
		"the greatest kind":                   {Kind: math.MaxInt},
		"a kind of more than 32 bits":         {Kind: 1 << 32},
		"a number too great":                  num(json.MaxNumber + 1),
		"a number too small":                  num(-json.MaxNumber - 1),
		"the greatest number":                 num(math.MaxInt),
		"the least number":                    num(math.MinInt),
		"null with a number too great":        {Num: json.MaxNumber + 1},
		"a list with a number too small":      {Kind: json.List, Num: -json.MaxNumber - 1},
		"a text with a number too great":      {Kind: json.Text, Num: math.MinInt},
		"a text of a lone byte":               text("\xff"),
		"a text that is cut off":              text("a\xc3"),
		"a text with a surrogate":             text("\xed\xa0\x80"),
		"a text in overlong form":             text("\xc0\x80"),
		"true with a text":                    {Kind: json.True, Text: "\x80"},
		"a number with a text":                {Kind: json.Number, Text: "\x80"},
		"an object with a text":               {Kind: json.Object, Text: "\x80"},
		"an object without a name":            {Kind: json.Object, Kids: []json.Value{{}}},
		"an object without a kid":             {Kind: json.Object, Names: []string{"a"}},
		"an object with one name more":        {Kind: json.Object, Names: []string{"a", "b", "c"}, Kids: make([]json.Value, 2)},
		"an object with one kid more":         {Kind: json.Object, Names: []string{"a", "b"}, Kids: make([]json.Value, 3)},
		"an object with equal names":          object("a", "b", "a"),
		"an object with two empty names":      object("", ""),
		"an object with a name that is bytes": object("a", "\xff"),
		"a list too deep":                     nested(list(), 16),
		"an object too deep":                  nested(object(), 16),
		"a list much too deep":                nested(list(), 1000),
		"a value in 17 lists":                 nested(num(1), 17),
		"one value too many":                  list(make([]json.Value, 4096)...),
		"many values too many":                list(make([]json.Value, 1<<20)...),
		"an object of too many":               {Kind: json.Object, Names: make([]string, 1<<20), Kids: make([]json.Value, 1<<20)},
	}
	for what, v := range bad {
		writesNot(t, what, v, api.ErrArg)
		writesNot(t, what+", in a list", list(num(1), v), api.ErrArg)
		writesNot(t, what+", in an object", json.Value{Kind: json.Object, Names: []string{"a", "b"}, Kids: []json.Value{num(1), v}}, api.ErrArg)
		// What isn't valid is told ahead of what is too long.
		writesNot(t, what+", in a value too long", list(text(strings.Repeat("a", 70000)), v), api.ErrArg)
	}
}

func TestWriteBounds(t *testing.T) { // P6.2
	writes(t, nested(list(), 15), strings.Repeat("[", 16)+strings.Repeat("]", 16))
	writes(t, nested(num(1), 16), strings.Repeat("[", 16)+"1"+strings.Repeat("]", 16))
	// Depth is counted anew in each kid.
	writes(t, list(nested(list(), 14), nested(list(), 14)), "["+strings.Repeat("[", 15)+strings.Repeat("]", 15)+","+strings.Repeat("[", 15)+strings.Repeat("]", 15)+"]")
	writes(t, list(make([]json.Value, 4095)...), "[null"+strings.Repeat(",null", 4094)+"]")
	// All values count, however they are nested.
	halves := list(list(make([]json.Value, 2047)...), list(make([]json.Value, 2046)...))
	writes(t, halves, "[[null"+strings.Repeat(",null", 2046)+"],[null"+strings.Repeat(",null", 2045)+"]]")
	halves.Kids = append(halves.Kids, num(0))
	writesNot(t, "halves of one value too many", halves, api.ErrArg)
	names := make([]string, 4095)
	for i := range names {
		names[i] = fmt.Sprint(i)
	}
	writes(t, object(names...), written(object(names...)))
	writesNot(t, "an object of one value too many", object(append(names, "x")...), api.ErrArg)
}

func TestWriteLength(t *testing.T) { // P6.2
	a := strings.Repeat("a", 65536)
	e := strings.Repeat("é", 40000)
	writes(t, text(a[:65534]), `"`+a[:65534]+`"`)
	writesNot(t, "a text of one byte too many", text(a[:65535]), api.ErrLimit)
	writesNot(t, "a text of two bytes too many", text(a), api.ErrLimit)
	writes(t, list(text(a[:65532])), `["`+a[:65532]+`"]`)
	writesNot(t, "a list of one byte too many", list(text(a[:65533])), api.ErrLimit)
	writes(t, list(text(a[:65530]), num(1)), `["`+a[:65530]+`",1]`)
	writesNot(t, "a number behind", list(text(a[:65530]), num(10)), api.ErrLimit)
	writesNot(t, "a comma and a number behind", list(text(a[:65532]), num(1)), api.ErrLimit)
	writes(t, object(a[:65530]), `{"`+a[:65530]+`":0}`)
	writesNot(t, "a name of one byte too many", object(a[:65531]), api.ErrLimit)
	writes(t, text(e[:65534]), `"`+e[:65534]+`"`)
	writesNot(t, "characters of two bytes", text(e), api.ErrLimit)
	low := strings.Repeat("\x01", 10923)
	writes(t, text(low[:10922]+"aa"), `"`+strings.Repeat(`\u0001`, 10922)+`aa"`)
	writesNot(t, "escapes", text(low), api.ErrLimit)
	writes(t, text(strings.Repeat("\n", 32767)), `"`+strings.Repeat(`\n`, 32767)+`"`)
	writesNot(t, "short escapes", text(strings.Repeat("\n", 32768)), api.ErrLimit)
	writes(t, list(make([]json.Value, 4095)...), "[null"+strings.Repeat(",null", 4094)+"]")
	greatest := make([]json.Value, 4095)
	for i := range greatest {
		greatest[i] = num(-json.MaxNumber)
	}
	writesNot(t, "many numbers", list(greatest...), api.ErrLimit)
	long := text(strings.Repeat("é", 1<<20))
	writesNot(t, "a long text", long, api.ErrLimit)
	writesNot(t, "a long text that ends in a lone byte", text(long.Text+"\xc3"), api.ErrArg)
	for i := range greatest {
		greatest[i] = text(long.Text[:20000])
	}
	writesNot(t, "many long texts", list(greatest...), api.ErrLimit)
}

func TestWriteEnds(t *testing.T) { // R1: values that hold themselves, and values that are many times in one another
	own := make([]json.Value, 1)
	own[0] = list(own...)
	own[0].Kids = own
	writesNot(t, "a list that holds itself", own[0], api.ErrArg)
	both := make([]json.Value, 3)
	for i := range both {
		both[i] = json.Value{Kind: json.Object, Names: []string{"a", "b", "c"}, Kids: both}
	}
	writesNot(t, "an object that holds itself", both[0], api.ErrArg)
	v := num(1)
	for range 15 {
		v = list(v, v, v, v)
	}
	writesNot(t, "a value that is many times in another", v, api.ErrArg)
	shared := list(num(1), text("a"))
	writes(t, list(shared, shared, shared), `[[1,"a"],[1,"a"],[1,"a"]]`)
}

func TestWriteRandom(t *testing.T) { // P6.2, P6.4
	r := rand.New(rand.NewSource(62))
	for range 20000 {
		v := random(r, 5)
		writes(t, v, written(v))
		b, _ := json.Write(v)
		if w, _, e := json.Parse(b); e != api.OK || !same(w, v) {
			t.Fatalf("Parse(Write(%s)) = %s, %d", sketch(v), sketch(w), e)
		}
		stuffed := stuff(r, v)
		if c, e := json.Write(stuffed); e != api.OK || string(c) != string(b) {
			t.Fatalf("Write(%s) = %q, %d", sketch(stuffed), c, e)
		}
	}
}

// stuff is v with something in the fields that belong to other kinds.
func stuff(r *rand.Rand, v json.Value) json.Value {
	if v.Kind != json.Number {
		v.Num = r.Intn(100)
	}
	if v.Kind != json.Text {
		v.Text = randomText(r)
	}
	if v.Kind != json.Object {
		v.Names = make([]string, r.Intn(3))
	}
	if v.Kind != json.Object && v.Kind != json.List {
		v.Kids = make([]json.Value, r.Intn(3))
		return v
	}
	v.Kids = slices.Clone(v.Kids)
	for i, k := range v.Kids {
		v.Kids[i] = stuff(r, k)
	}
	return v
}

func TestParseThenWrite(t *testing.T) { // P6.4
	r := rand.New(rand.NewSource(64))
	for range 20000 {
		s := loose(r, random(r, 5))
		if r.Intn(2) == 0 {
			s = altered(r, s)
		}
		v, _, e := json.Parse([]byte(s))
		if e != api.OK {
			continue
		}
		b, e := json.Write(v)
		if e != api.OK {
			t.Fatalf("Write of the value of %q: %d", s, e)
		}
		if w, _, e := json.Parse(b); e != api.OK || !same(w, v) || !same(decoded(string(b)), decoded(s)) {
			t.Fatalf("%q became %q", s, b)
		}
	}
	for _, s := range []string{
		`"` + strings.Repeat("a", 65534) + `"`, `"` + strings.Repeat(`\u0001`, 10922) + `"`, `"` + strings.Repeat(`\n`, 32767) + `"`, `"` + strings.Repeat("\x7f", 65534) + `"`, `"` + strings.Repeat(`\/`, 32767) + `"`, `"` + strings.Repeat("😀", 16383) + `"`,
		"[" + strings.Repeat("-9007199254740991,", 3639) + "-0]", strings.Repeat("[", 16) + strings.Repeat("]", 16), "[" + strings.Repeat(`"",`, 4094) + "{}]", "-0",
	} {
		v, at, e := json.Parse([]byte(s))
		if e != api.OK {
			t.Fatalf("Parse(%.60q): %d at %d", s, e, at)
		}
		b, e := json.Write(v)
		if w, _, f := json.Parse(b); e != api.OK || f != api.OK || !same(w, v) {
			t.Errorf("Write of the value of %.60q: %d, %d", s, e, f)
		}
	}
}

func TestWriteIsNewMemory(t *testing.T) { // R3
	v := list(text("abc"), object("a", "b"), list(num(1), num(2)))
	v.Kids = append(make([]json.Value, 0, 8), v.Kids...)
	for i := range v.Kids[:8][3:] {
		v.Kids[:8][3:][i] = num(70 + i)
	}
	kept := list(slices.Clone(v.Kids[:8])...)
	a, _ := json.Write(v)
	b, _ := json.Write(v)
	if shared([]span{spanOf(a), spanOf(b)}) {
		t.Error("two texts share memory")
	}
	clear(a[:cap(a)])
	if c, _ := json.Write(v); string(b) != string(c) {
		t.Errorf("a text changed with another one: %q, %q", b, c)
	}
	if !same(kept, list(v.Kids[:8]...)) {
		t.Error("the argument or its capacity was changed")
	}
}
