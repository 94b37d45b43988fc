package json

import (
	"fmt"
	"strings"
	"testing"

	"muster/api"
)

const (
	leastInt64 = -1 << 63
	lastInt64  = 1<<63 - 1
)

// prints: Print must write the value so, and Parse must read the text as the value.
func prints(t *testing.T, v api.Json, want string) {
	t.Helper()
	if text, err := Print(v); text != want || err != api.OK {
		t.Errorf("%+v: %.60q, %d, not %.60q", v, text, err, want)
	}
	parses(t, want, v)
}

// unprintable: Print must refuse the value with this error, and with no text.
func unprintable(t *testing.T, want api.Errno, values ...api.Json) {
	t.Helper()
	for _, v := range values {
		if text, err := Print(v); text != "" || err != want {
			t.Errorf("%.200s: %.60q, %d, not %d", fmt.Sprintf("%+v", v), text, err, want)
		}
	}
}

// P18.2: values of each kind, the shortest way.
func TestPrint(t *testing.T) {
	prints(t, Null(), "null")
	prints(t, Bool(true), "true")
	prints(t, Bool(false), "false")
	for n, want := range map[int64]string{0: "0", 5: "5", -5: "-5", 10: "10", 1000000: "1000000", lastInt64: "9223372036854775807", leastInt64: "-9223372036854775808"} {
		prints(t, Num(n), want)
	}
	prints(t, Text(""), `""`)
	prints(t, List(), "[]")
	prints(t, Object(nil), "{}")
	prints(t, List(Null()), "[null]")
	prints(t, List(List(List()), Object(nil), Num(-1)), "[[[]],{},-1]")
	prints(t, Object([]string{"b", "", "a\n"}, List(Num(1), Text("")), Text("x y"), Object([]string{"b"}, Bool(true))), `{"b":[1,""],"":"x y","a\n":{"b":true}}`)
}

// P18.2: each byte of a text, and of a name.
func TestPrintCharacters(t *testing.T) {
	short := map[byte]string{'"': `\"`, '\\': `\\`, 8: `\b`, 12: `\f`, 10: `\n`, 13: `\r`, 9: `\t`}
	for i := range 256 {
		want, ok := short[byte(i)]
		switch {
		case ok:
		case i < 32:
			want = fmt.Sprintf(`\u%04x`, i)
		default:
			want = string([]byte{byte(i)})
		}
		s := "a" + string([]byte{byte(i)}) + "z"
		prints(t, Text(s), `"a`+want+`z"`)
		prints(t, Object([]string{s}, Null()), `{"a`+want+`z":null}`)
	}
	prints(t, Text("\x00\x1f\x0b\x0e"), `"\u0000\u001f\u000b\u000e"`)
	prints(t, Text("/<>&'\x7f\u2028\xff"), "\"/<>&'\x7f\u2028\xff\"")
}

// P18.2: a value whose kind is none, or that has what its kind doesn't use.
func TestUnsoundParts(t *testing.T) {
	for _, kind := range []int{leastInt64, -1, 0, 7, 8, 255, 256 + api.JsonNull, lastInt64} {
		unprintable(t, api.ErrJsonValue, api.Json{Kind: kind})
	}
	item := []api.Json{Null()}
	name := []string{""}
	for kind, wrong := range map[int][]api.Json{
		api.JsonNull:   {{Num: 1}, {Num: leastInt64}, {Text: "a"}, {Names: name}, {Items: item}, {Names: name, Items: item}},
		api.JsonBool:   {{Num: 2}, {Num: -1}, {Num: lastInt64}, {Num: 1 << 32}, {Num: 1, Text: "a"}, {Names: name}, {Num: 1, Items: item}},
		api.JsonNum:    {{Text: "1"}, {Num: 1, Text: "1"}, {Num: 1, Names: name}, {Items: item}},
		api.JsonText:   {{Num: 1}, {Num: -1, Text: "a"}, {Text: "a", Names: name}, {Items: item}},
		api.JsonList:   {{Num: 1}, {Text: "a"}, {Names: name}, {Names: name, Items: item}, {Num: -1, Items: item}, {Text: " ", Items: item}},
		api.JsonObject: {{Num: 1}, {Text: "a"}, {Names: name}, {Items: item}, {Num: 1, Names: name, Items: item}, {Text: "a", Names: name, Items: item}, {Names: []string{"a", "b"}, Items: item}, {Names: name, Items: []api.Json{Null(), Null()}}},
	} {
		for _, v := range wrong {
			v.Kind = kind
			unprintable(t, api.ErrJsonValue, v, List(v), List(Num(1), Text("x"), v), List(v, Null()), Object([]string{"a"}, v), nested(16, v))
		}
	}
	// Lists that are empty, but not nil, are nothing.
	for kind, want := range map[int]string{api.JsonNull: "null", api.JsonBool: "false", api.JsonNum: "0", api.JsonText: `""`, api.JsonList: "[]", api.JsonObject: "{}"} {
		prints(t, api.Json{Kind: kind, Names: []string{}, Items: []api.Json{}}, want)
		prints(t, api.Json{Kind: kind, Names: make([]string, 0, 5), Items: item[:0]}, want)
	}
}

// P18.2: a name twice, wherever it stands.
func TestUnsoundNames(t *testing.T) {
	many := make([]string, 3000)
	for i := range many {
		many[i] = fmt.Sprint(i)
	}
	items := repeated(Null(), len(many))
	if _, err := Print(Object(many, items...)); err != api.OK {
		t.Error(err)
	}
	for _, at := range [][2]int{{0, 1}, {0, 2999}, {2998, 2999}, {1000, 2000}} {
		was := many[at[1]]
		many[at[1]] = many[at[0]]
		unprintable(t, api.ErrJsonValue, Object(many, items...), List(Object(many, items...)))
		many[at[1]] = was
	}
	unprintable(t, api.ErrJsonValue, Object([]string{"", ""}, Null(), Null()), Object([]string{"\xff", "a", "\xff"}, Null(), Null(), Null()))
	prints(t, Object([]string{"a", "A", "a ", "\xff", "\xfe"}, Null(), Null(), Null(), Null(), Null()), "{\"a\":null,\"A\":null,\"a \":null,\"\xff\":null,\"\xfe\":null}")
}

// P18.2: a value of depth 16 is sound, one of depth 17 isn't, wherever its depth comes from.
func TestUnsoundDepth(t *testing.T) {
	prints(t, nested(16), strings.Repeat("[", 16)+strings.Repeat("]", 16))
	prints(t, nested(16, Num(1), Text("[[")), strings.Repeat("[", 16)+`1,"[["`+strings.Repeat("]", 16))
	prints(t, List(Null(), nested(15), Null()), "[null,"+strings.Repeat("[", 15)+strings.Repeat("]", 15)+",null]")
	unprintable(t, api.ErrJsonValue, nested(17), nested(17, Null()), nested(16, Object(nil)), nested(16, Num(1), Object([]string{"a"}, Num(1)), Num(1)), List(Null(), nested(16)), Object([]string{"a", "b"}, Num(1), nested(16)), nested(40))
	object := Object(nil)
	for range 15 {
		object = Object([]string{"a", "b"}, Null(), object)
	}
	if _, err := Print(object); err != api.OK {
		t.Error(err)
	}
	unprintable(t, api.ErrJsonValue, Object([]string{"a"}, object), List(object))
}

// P1: a value that is nested as deep as values may be, and one that is an item of its own.
func TestPrintOfTheDeepest(t *testing.T) {
	deepest := List()
	for range 1 << 16 {
		deepest = api.Json{Kind: api.JsonList, Items: []api.Json{deepest}}
	}
	around := []api.Json{Null(), {Kind: api.JsonList}, {Kind: api.JsonList}}
	around[1].Items, around[2].Items = around, around
	unprintable(t, api.ErrJsonValue, around[1])
	if text, err := Print(deepest); text != "" || err != api.ErrJsonValue {
		t.Error(text, err)
	}
}

// P18.2: a text of 65536 bytes is written, one of a byte more isn't.
func TestPrintOfLong(t *testing.T) {
	long := strings.Repeat("a", 65534)
	prints(t, Text(long), `"`+long+`"`)
	prints(t, List(Text(long[2:])), `["`+long[2:]+`"]`)
	prints(t, Object([]string{long[4:]}, Num(1)), `{"`+long[4:]+`":1}`)
	prints(t, Text(strings.Repeat("\x01", 10922)), `"`+strings.Repeat(`\u0001`, 10922)+`"`)
	prints(t, Text(strings.Repeat("\n", 32767)), `"`+strings.Repeat(`\n`, 32767)+`"`)
	prints(t, List(append(repeated(Num(0), 32766), Num(10))...), "["+strings.Repeat("0,", 32766)+"10]")
	for _, v := range []api.Json{
		Text(long + "a"), List(Text(long[1:])), List(Text(long)), Object([]string{long[3:]}, Num(1)), Object([]string{long + "a"}, Null()), Object([]string{"a"}, Text(long)),
		Text(strings.Repeat("\x01", 10923)), Text(strings.Repeat("\"", 32768)), List(append(repeated(Num(0), 32766), Num(100))...), List(repeated(Num(0), 32768)...), nested(15, Text(long[29:])),
	} {
		if text, err := Print(v); text != "" || err != api.ErrJsonLong {
			t.Errorf("%d bytes, %d", len(text), err)
		}
	}
	prints(t, nested(15, Text(long[30:])), strings.Repeat("[", 15)+`"`+long[30:]+`"`+strings.Repeat("]", 15))
}

// P18.2: of a value that isn't sound and too long as well, the first is told.
func TestPrintOfLongAndUnsound(t *testing.T) {
	huge := repeated(Text(strings.Repeat("a", 70000)), 200)
	unsound := append(repeated(Num(-1), 300000), api.Json{})
	for _, items := range [][]api.Json{append(huge, api.Json{}), unsound, append(huge, Object([]string{"a", "a"}, Null(), Null())), append(huge, nested(16))} {
		if text, err := Print(List(items...)); text != "" || err != api.ErrJsonValue {
			t.Errorf("%d bytes, %d", len(text), err)
		}
	}
	for _, v := range []api.Json{List(huge...), List(unsound[:300000]...), List(List(huge...), List(huge...)), Text(strings.Repeat("\x00", 1<<26))} {
		if text, err := Print(v); text != "" || err != api.ErrJsonLong {
			t.Errorf("%d bytes, %d", len(text), err)
		}
	}
}
