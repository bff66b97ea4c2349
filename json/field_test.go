package json_test

import (
	"slices"
	"testing"

	"hallmark/api"
	"hallmark/json"
)

// hasNo reports it unless v has no such member.
func hasNo(t *testing.T, v json.Value, name string) {
	t.Helper()
	if k, ok := v.Field(name); ok || !isZero(k) {
		t.Errorf("Field(%q) of %s = %s, %v", name, sketch(v), sketch(k), ok)
	}
}

// has reports it unless v's member is this one.
func has(t *testing.T, v json.Value, name string, want json.Value) {
	t.Helper()
	if k, ok := v.Field(name); !ok || !same(k, want) {
		t.Errorf("Field(%q) of %s = %s, %v", name, sketch(v), sketch(k), ok)
	}
}

func TestField(t *testing.T) { // P6.3
	v, _, e := json.Parse([]byte(`{"a":1,"":"x","b":[1,{"c":null}],"é":{"a":2},"z":null}`))
	if e != api.OK {
		t.Fatal(e)
	}
	has(t, v, "a", num(1))
	has(t, v, "", text("x"))
	has(t, v, "b", v.Kids[2])
	has(t, v, "é", json.Value{Kind: json.Object, Names: []string{"a"}, Kids: []json.Value{num(2)}})
	has(t, v, "z", json.Value{})
	for _, name := range []string{"A", "c", "a ", "e", "\xff", "null", "x"} {
		hasNo(t, v, name)
	}
	hasNo(t, object(), "")
	hasNo(t, json.Value{}, "")
}

func TestFieldOfOtherKinds(t *testing.T) { // P6.3
	for k := -1; k < 9; k++ {
		if k != json.Object {
			hasNo(t, json.Value{Kind: k, Num: 1, Text: "a", Names: []string{"a"}, Kids: []json.Value{num(1)}}, "a")
		}
	}
}

func TestFieldOfUnevenObjects(t *testing.T) { // P6.3: the first of several names counts, and none without a kid
	kids := []json.Value{num(0), num(1), num(2)}
	v := json.Value{Kind: json.Object, Names: []string{"a", "b", "a"}, Kids: kids}
	has(t, v, "a", num(0))
	has(t, v, "b", num(1))
	v.Kids = kids[:2]
	has(t, v, "a", num(0))
	has(t, v, "b", num(1))
	v.Kids = kids[:1]
	has(t, v, "a", num(0))
	hasNo(t, v, "b")
	v.Kids = nil
	hasNo(t, v, "a")
	v = json.Value{Kind: json.Object, Names: []string{"a"}, Kids: kids}
	has(t, v, "a", num(0))
	hasNo(t, v, "")
	v.Names = nil
	hasNo(t, v, "")
}

func TestFieldTakesKidsAsTheyAre(t *testing.T) { // P6.3: the kid needn't be valid
	for _, k := range []json.Value{
		{Kind: 99, Num: -1 << 60, Text: "\xff", Names: []string{"a", "a"}, Kids: []json.Value{{Kind: -1}}},
		nested(num(1), 100),
		nested(num(1), 1<<16-1),
		list(make([]json.Value, 10000)...),
	} {
		has(t, json.Value{Kind: json.Object, Num: 1 << 60, Text: "\xff", Names: []string{"\xff"}, Kids: []json.Value{k}}, "\xff", k)
	}
}

func TestFieldIsNewMemory(t *testing.T) { // P6.3, R3
	twice := list(num(1), object("x", "y"))
	kid := list(twice, twice, object("z"), list(twice))
	v := json.Value{Kind: json.Object, Names: []string{"a", "b"}, Kids: []json.Value{kid, num(3)}}
	k, ok := v.Field("a")
	if !ok || shared(spans(k)) {
		t.Error("slices of a member share memory")
	}
	for _, s := range spans(k) {
		if slices.ContainsFunc(spans(v), func(o span) bool { return shared([]span{s, o}) }) {
			t.Error("a member shares memory with its object")
		}
	}
	k.Kids[0].Kids[0].Num = 7
	k.Kids[2].Names[0] = "w"
	k.Kids[3].Kids[0].Kids[1].Kids[0].Num = 8
	k.Kids[1] = num(9)
	again := list(num(1), object("x", "y"))
	has(t, v, "a", list(again, again, object("z"), list(again)))
}

func TestFieldEnds(t *testing.T) { // R1: values that hold themselves, and values that are too many times in one another to be copied
	own := make([]json.Value, 1)
	own[0] = json.Value{Kind: json.Object, Names: []string{"a"}, Kids: own}
	own[0].Field("a")
	hasNo(t, own[0], "b")
	both := make([]json.Value, 3)
	for i := range both {
		both[i] = json.Value{Kind: json.Object, Names: []string{"a", "b", "c"}, Kids: both}
	}
	both[0].Field("c")
	wide := json.Value{Kind: json.Object, Names: make([]string, 1<<20)}
	for range 2 {
		kids := make([]json.Value, 1<<12)
		for i := range kids {
			kids[i] = wide
		}
		wide = list(kids...)
	}
	v := json.Value{Kind: json.Object, Names: []string{"a"}, Kids: []json.Value{wide}}
	v.Field("a")
}
