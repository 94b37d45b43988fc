package json

import (
	"slices"
	"testing"

	"muster/api"
)

// finds: Field must answer this item.
func finds(t *testing.T, v api.Json, name string, want api.Json) {
	t.Helper()
	if item, ok := Field(v, name); !ok || !same(item, want) {
		t.Errorf("%q of %+v: %+v, %v", name, v, item, ok)
	}
}

// findsNone: Field must answer that there is none.
func findsNone(t *testing.T, v api.Json, names ...string) {
	t.Helper()
	for _, name := range names {
		if item, ok := Field(v, name); ok || !same(item, api.Json{}) {
			t.Errorf("%q of %+v: %+v, %v", name, v, item, ok)
		}
	}
}

// P18.4: the item of that name.
func TestField(t *testing.T) {
	o := Object([]string{"b", "a", "", "A", "\xff"}, Num(1), List(Text("x")), Object([]string{"b"}, Null()), Bool(true), Text("y"))
	finds(t, o, "b", Num(1))
	finds(t, o, "a", List(Text("x")))
	finds(t, o, "", Object([]string{"b"}, Null()))
	finds(t, o, "A", Bool(true))
	finds(t, o, "\xff", Text("y"))
	findsNone(t, o, "B", "aa", "b ", " b", "x", "\xfe", "\ufffd", "null", `"a"`)
	findsNone(t, Object(nil), "", "a")
	v, err := Parse(`{"\u0061":[0], "b" : {"a":1}}`)
	if err != api.OK {
		t.Fatal(err)
	}
	finds(t, v, "a", List(Num(0)))
	finds(t, v, "b", Object([]string{"a"}, Num(1)))
}

// P18.4: what is no object has no fields.
func TestFieldOfOthers(t *testing.T) {
	names, items := []string{"a", ""}, []api.Json{Num(1), Num(2)}
	for kind := -1; kind < 300; kind++ {
		v := api.Json{Kind: kind, Num: 1, Text: "a", Names: names, Items: items}
		if kind == api.JsonObject {
			finds(t, v, "a", Num(1))
			continue
		}
		findsNone(t, v, "a", "", "b")
	}
	findsNone(t, List(Object([]string{"a"}, Num(1))), "a")
	findsNone(t, Text("a"), "a", "")
	findsNone(t, Null(), "", "null")
	findsNone(t, api.Json{}, "")
}

// P18.4: of an object that isn't sound: the first item of several, none for a name without an item.
func TestFieldOfUnsound(t *testing.T) {
	twice := Object([]string{"a", "b", "a", "b"}, Num(1), Num(2), Num(3))
	finds(t, twice, "a", Num(1))
	finds(t, twice, "b", Num(2))
	short := Object([]string{"a", "b", "c", "c", "a"}, Num(1), api.Json{})
	finds(t, short, "a", Num(1))
	finds(t, short, "b", api.Json{})
	findsNone(t, short, "c", "")
	findsNone(t, Object([]string{"a", "a"}), "a")
	findsNone(t, Object([]string{}, Num(1)), "")
	finds(t, Object([]string{"a"}, Num(1), Num(2)), "a", Num(1))
	findsNone(t, Object([]string{"a"}, Num(1), Num(2)), "")
	unsound := api.Json{Kind: 9, Num: 4, Text: "t", Names: []string{"x", "x"}, Items: []api.Json{{Kind: -1}}}
	finds(t, Object([]string{"a"}, unsound), "a", unsound)
	finds(t, Object([]string{"a", "a"}, nested(50), Null()), "a", nested(50))
	odd := Object([]string{"a"}, Num(1))
	odd.Num, odd.Text = 5, "z"
	finds(t, odd, "a", Num(1))
}

// P18.4: the values as they are made.
func TestMakers(t *testing.T) {
	for _, c := range []struct{ have, want api.Json }{
		{Null(), api.Json{Kind: api.JsonNull}},
		{Bool(false), api.Json{Kind: api.JsonBool}},
		{Bool(true), api.Json{Kind: api.JsonBool, Num: 1}},
		{Num(0), api.Json{Kind: api.JsonNum}},
		{Num(leastInt64), api.Json{Kind: api.JsonNum, Num: leastInt64}},
		{Num(lastInt64), api.Json{Kind: api.JsonNum, Num: lastInt64}},
		{Text(""), api.Json{Kind: api.JsonText}},
		{Text("a\x00\xff\""), api.Json{Kind: api.JsonText, Text: "a\x00\xff\""}},
		{List(), api.Json{Kind: api.JsonList}},
		{List(Num(1), Null(), Num(1)), api.Json{Kind: api.JsonList, Items: []api.Json{{Kind: api.JsonNum, Num: 1}, {Kind: api.JsonNull}, {Kind: api.JsonNum, Num: 1}}}},
		{Object(nil), api.Json{Kind: api.JsonObject}},
		{Object([]string{"b", "a"}, Num(1), List()), api.Json{Kind: api.JsonObject, Names: []string{"b", "a"}, Items: []api.Json{{Kind: api.JsonNum, Num: 1}, {Kind: api.JsonList}}}},
	} {
		if !same(c.have, c.want) {
			t.Errorf("%+v, not %+v", c.have, c.want)
		}
	}
}

// P18.4: List and Object take what isn't sound as it is given.
func TestUnsoundMakers(t *testing.T) {
	unsound := []api.Json{{}, {Kind: 7, Num: 3, Text: "x", Names: []string{"n", "n"}, Items: []api.Json{{Kind: -4}, {}}}, {Kind: api.JsonNull, Items: []api.Json{{Kind: 9}}}}
	if v := List(unsound...); !same(v, api.Json{Kind: api.JsonList, Items: unsound}) {
		t.Error(v)
	}
	for _, names := range [][]string{nil, {"a"}, {"a", "a"}, {"a", "a", "b"}, {"a", "b", "c", "d", ""}} {
		for count := range len(unsound) + 1 {
			if v := Object(names, unsound[:count]...); !same(v, api.Json{Kind: api.JsonObject, Names: names, Items: unsound[:count]}) {
				t.Error(names, count, v)
			}
		}
	}
	deep := nested(1000, Object([]string{"a", "a"}, api.Json{}))
	if v := List(deep, deep); !same(v.Items[0], deep) || !same(v.Items[1], deep) || len(v.Items) != 2 {
		t.Error("deep values are others")
	}
}

// P1: values that are nested as deep as values may be are taken and found.
func TestDeepest(t *testing.T) {
	deepest := Num(7)
	for range 1<<16 - 2 {
		deepest = api.Json{Kind: api.JsonObject, Names: []string{"a"}, Items: []api.Json{deepest}}
	}
	item, ok := Field(Object([]string{"a"}, deepest), "a")
	for range 1<<16 - 2 {
		if !ok || item.Kind != api.JsonObject || len(item.Items) != 1 {
			t.Fatal("it isn't so deep")
		}
		item = item.Items[0]
	}
	if item.Num != 7 {
		t.Error(item)
	}
}

// spoil: writes over all lists of a value, spare room included.
func spoil(v api.Json) {
	for i := range v.Items[:cap(v.Items)] {
		item := &v.Items[:cap(v.Items)][i]
		if i < len(v.Items) {
			spoil(*item)
		}
		*item = api.Json{Kind: 77, Text: "spoilt"}
	}
	for i := range v.Names[:cap(v.Names)] {
		v.Names[:cap(v.Names)][i] = "spoilt"
	}
}

// sample: a value with lists in lists, each with spare room, and some of them the same memory.
func sample() api.Json {
	names := append(make([]string, 0, 9), "a", "b", "c")
	inner := append(make([]api.Json, 0, 7), Num(1), Text("x"), Null())
	list := api.Json{Kind: api.JsonList, Items: inner}
	object := api.Json{Kind: api.JsonObject, Names: names, Items: inner}
	return api.Json{Kind: api.JsonObject, Names: names, Items: append(make([]api.Json, 0, 5), list, object, list)}
}

// P18.4: an answer is new memory: it stays when what was handed in is written over.
func TestArgumentsAreNotKept(t *testing.T) {
	want := sample()
	for place, make := range []func(v api.Json) api.Json{
		func(v api.Json) api.Json { return List(v.Items...) },
		func(v api.Json) api.Json { return Object(v.Names, v.Items...) },
		func(v api.Json) api.Json { return List(v) },
		func(v api.Json) api.Json { return Object([]string{"n"}, v) },
		func(v api.Json) api.Json { item, _ := Field(v, "b"); return item },
	} {
		v := sample()
		answer := make(v)
		spoil(v)
		if !same(answer, make(want)) {
			t.Errorf("%d: %+v", place, answer)
		}
		// What was handed in stays, too, when the answer is written over.
		v = sample()
		spoil(make(v))
		if !same(v, want) || !same(api.Json{Kind: api.JsonList, Items: v.Items[:cap(v.Items)]}, api.Json{Kind: api.JsonList, Items: want.Items[:cap(want.Items)]}) {
			t.Errorf("%d: the argument is %+v", place, v)
		}
	}
}

// P18.1, P18.4: no two lists of one answer share memory, not their spare room either.
func TestAnswersShareNothing(t *testing.T) {
	parsed, err := Parse(`{"a":[1,"x",null],"b":{"a":1,"b":"x","c":null},"c":[1,"x",null]}`)
	if err != api.OK || !same(parsed, sample()) {
		t.Fatal(parsed, err)
	}
	item, _ := Field(Object([]string{"s"}, sample()), "s")
	for place, v := range []api.Json{parsed, item, List(sample().Items...), Object(sample().Names, sample().Items...)} {
		list := api.Json{Kind: v.Kind, Names: slices.Clone(v.Names), Items: slices.Clone(v.Items)}
		for i := range list.Items {
			spoil(list.Items[i])
			for j, other := range list.Items {
				if j > i && !same(other, sample().Items[j]) {
					t.Errorf("%d: item %d is spoilt with item %d: %+v", place, j, i, other)
				}
			}
		}
		if !slices.Equal(v.Names, list.Names) {
			t.Errorf("%d: the names are spoilt: %q", place, v.Names)
		}
	}
}

// P2: Print and Parse change nothing, and answer the same again.
func TestAgain(t *testing.T) {
	v := sample()
	text, err := Print(v)
	again, _ := Print(v)
	if err != api.OK || text != again || !same(v, sample()) {
		t.Error(text, again, err, v)
	}
	first, _ := Parse(text)
	spoil(first)
	second, err := Parse(text)
	if err != api.OK || !same(second, sample()) {
		t.Error(second, err)
	}
}
