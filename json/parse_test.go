package json

import (
	"fmt"
	"strings"
	"testing"

	"muster/api"
)

// parses: Parse must say of the text what it says.
func parses(t *testing.T, text string, want api.Json) {
	t.Helper()
	if v, err := Parse(text); err != api.OK || !same(v, want) {
		t.Errorf("%.60q: %+v, %d", text, v, err)
	}
}

// refuses: Parse must refuse the text with this error, and with a zero value.
func refuses(t *testing.T, want api.Errno, texts ...string) {
	t.Helper()
	for _, text := range texts {
		if v, err := Parse(text); err != want || !same(v, api.Json{}) {
			t.Errorf("%.60q: %+v, %d, not %d", text, v, err, want)
		}
	}
}

// The section Examples.
func TestExamples(t *testing.T) {
	v, err := Parse(` {"a": [1, -2, "x\u000A"]} `)
	if err != api.OK || !same(v, Object([]string{"a"}, List(Num(1), Num(-2), Text("x\n")))) {
		t.Error(v, err)
	}
	if text, err := Print(v); text != `{"a":[1,-2,"x\n"]}` || err != api.OK {
		t.Error(text, err)
	}
	refuses(t, api.ErrJsonTwice, `{"a":1,"a":2}`)
	refuses(t, api.ErrJson, `01`, `[1,]`)
}

// P18.1: words, and what is nearly one.
func TestWords(t *testing.T) {
	parses(t, "null", api.Json{Kind: api.JsonNull})
	parses(t, "true", api.Json{Kind: api.JsonBool, Num: 1})
	parses(t, "false", api.Json{Kind: api.JsonBool})
	refuses(t, api.ErrJson, "n", "nul", "nulll", "Null", "NULL", "nu ll", "truefalse", "tru", "true1", "fals", "falsee", "False", "none", "nil", "NaN", "undefined", "x", "'a'", "true,", "true:", "null]", "null}")
}

// P18.1: numbers, at their edges too.
func TestNumbers(t *testing.T) {
	for text, want := range map[string]int64{
		"0": 0, "7": 7, "-1": -1, "10": 10, "-10": -10, "65536": 65536, "1000000000000": 1000000000000,
		"9223372036854775807": 1<<63 - 1, "-9223372036854775808": -1 << 63, "9223372036854775799": 1<<63 - 9, "-9223372036854775807": -1<<63 + 1,
	} {
		parses(t, text, api.Json{Kind: api.JsonNum, Num: want})
		parses(t, "[\t"+text+"\n]", List(Num(want)))
	}
	refuses(t, api.ErrJson, "-", "--1", "- 1", "+1", "-0", "00", "01", "-00", "-01", "000000000000000000000000", "1.0", "1.", ".5", "1e3", "1E3", "0x10", "1_000", "1 000", "1,000", "0-", "1-1", "１", "٣",
		"9223372036854775808", "-9223372036854775809", "18446744073709551615", "18446744073709551616", "18446744073709551617", "99999999999999999999999999999999", "-99999999999999999999999999999999",
		strings.Repeat("1", 65536), "[01]", "[-0]", "[1 2]", "[-]", `{"a":01}`, `{"a":-}`, `{"a":9223372036854775808}`)
}

// P18.1: each byte as a character of a text, as it is and behind a backslash.
func TestCharacters(t *testing.T) {
	short := map[byte]byte{'"': '"', '\\': '\\', '/': '/', 'b': 8, 'f': 12, 'n': 10, 'r': 13, 't': 9}
	for i := range 256 {
		c := byte(i)
		plain := `"a` + string([]byte{c}) + `z"`
		if i < 32 || c == '\\' {
			refuses(t, api.ErrJson, plain)
		} else if c != '"' {
			parses(t, plain, Text("a"+string([]byte{c})+"z"))
		}
		escaped := `"a\` + string([]byte{c}) + `z"`
		if want, ok := short[c]; ok {
			parses(t, escaped, Text("a"+string([]byte{want})+"z"))
		} else {
			refuses(t, api.ErrJson, escaped)
		}
	}
	parses(t, `""`, Text(""))
	parses(t, "\"\x7f\x80\xff\xc3\"", Text("\x7f\x80\xff\xc3"))
	parses(t, `"täglich ☕"`, Text("täglich ☕"))
	parses(t, `"[{,:]}"`, Text("[{,:]}"))
	refuses(t, api.ErrJson, `"`, `"a`, `"\`, `"\"`, `"\\\"`, `"a""b"`, `""a`, "\"\n\"", "\"\x00\"", "\"\x1f\"", `a"`, `"a\x"`)
}

// P18.1: every number behind \u, in letters of any size, and what is no number there.
func TestNumberedCharacters(t *testing.T) {
	for i := range 1 << 16 {
		for _, form := range []string{`"a\u%04xz"`, `"a\u%04Xz"`} {
			text := fmt.Sprintf(form, i)
			v, err := Parse(text)
			if i < 128 && (err != api.OK || !same(v, Text("a"+string([]byte{byte(i)})+"z"))) || i >= 128 && (err != api.ErrJson || !same(v, api.Json{})) {
				t.Fatal(text, v, err)
			}
		}
	}
	parses(t, `"\u0041\u006a\u006A"`, Text("Ajj"))
	parses(t, `"\u00412"`, Text("A2"))
	refuses(t, api.ErrJson, `"\u`, `"\u"`, `"\u0`, `"\u00`, `"\u004`, `"\u004"`, `"\u0041`, `"\u00"41"`, `"\u 041"`, `"\u+041"`, `"\u-041"`, `"\u0_41"`, `"\u004g"`, `"\u004G"`, `"\u004:"`, `"\u004@"`, "\"\\u004`\"", `"\u004/"`, `"\U0041"`, `"\u{41}"`, `"\x41"`, `"\u0x41"`, `"\ud83d\ude00"`)
}

// P18.1: space stands around every value, name, colon, comma and bracket, and is these four bytes alone.
func TestSpace(t *testing.T) {
	want := Object([]string{"a", "b", "c"}, List(), List(Num(1), Text(" "), Null()), Object(nil))
	parts := []string{"{", `"a"`, ":", "[", "]", ",", `"b"`, ":", "[", "1", ",", `" "`, ",", "null", "]", ",", `"c"`, ":", "{", "}", "}"}
	for _, space := range []string{"", " ", "\t", "\n", "\r", " \t\r\n ", strings.Repeat("\r\n", 100)} {
		parses(t, space+strings.Join(parts, space)+space, want)
		for i := range len(parts) + 1 {
			parses(t, strings.Join(parts[:i], "")+space+strings.Join(parts[i:], ""), want)
		}
	}
	refuses(t, api.ErrJson, "", " ", " \t\r\n", "[ ", "{ ", "[1 ", `{"a" `, `{"a": `, `{"a":1 `, `{"a":1, `, "[1, ")
	for i := range 256 {
		if !strings.ContainsRune(" \t\n\r", rune(i)) {
			b := string([]byte{byte(i)})
			refuses(t, api.ErrJson, b+"null", "null"+b, b+"[]", "[]"+b)
		}
	}
	refuses(t, api.ErrJson, "\u00a0null", "null\u2028", "\ufeffnull", "nu\nll", "1\n2", "- 1")
}

// P18.1: lists.
func TestLists(t *testing.T) {
	parses(t, "[]", List())
	parses(t, "[[]]", List(List()))
	parses(t, "[[],[],{}]", List(List(), List(), Object(nil)))
	parses(t, `[1,"a",null,true,false,[2],1]`, List(Num(1), Text("a"), Null(), Bool(true), Bool(false), List(Num(2)), Num(1)))
	refuses(t, api.ErrJson, "[", "]", "[[]", "[]]", "[,]", "[1,]", "[,1]", "[1,,2]", "[1", "[1,", "[1 2]", "[1;2]", "[1:2]", "[1}", "{]", "[}", "[]{}", "[][]", "[],", ",[]", "(1)", "[1)", `["a":1]`, `["a"`, "[1],[2]")
}

// P18.1: objects, whose names and items come in the order of the text.
func TestObjects(t *testing.T) {
	parses(t, "{}", Object(nil))
	parses(t, `{"":{}}`, Object([]string{""}, Object(nil)))
	parses(t, `{"b":1,"a":"b","B":[{"b":null}],"\n":false}`, Object([]string{"b", "a", "B", "\n"}, Num(1), Text("b"), List(Object([]string{"b"}, Null())), Bool(false)))
	refuses(t, api.ErrJson, "{", "}", "{{}", "{}}", "{,}", `{"a":1,}`, `{,"a":1}`, `{"a":1,,"b":2}`, `{"a":1`, `{"a":1,`, `{"a":`, `{"a"`, `{"a`, `{"a":}`, `{"a"}`, `{"a",}`, `{"a":1 "b":2}`, `{"a":1;"b":2}`, `{"a":1:"b"}`, `{"a" 1}`, `{"a"=1}`, `{"a"::1}`, `{:1}`,
		"{a:1}", "{1:1}", "{null:1}", "{'a':1}", "{[]:1}", "{{}:1}", `{"a":1]`, `{"a":1}}`, `{"a":1}{}`, `{"a":1,2}`, `{"a":1,null}`, `{"a":1,[`, `{"a\q":1}`)
}

// P18.1: a name twice, told at its end; names are the same by what they say, in one object alone.
func TestTwice(t *testing.T) {
	refuses(t, api.ErrJsonTwice, `{"a":1,"a":1}`, `{"a":1,"a"`, `{"a":1,"a"x`, `{"a":1,"b":2,"a"]`, `{"":0,""`, `{"a":1,"\u0061"`, `{"\u000a":1,"\n"`, `{"/":1,"\/"`, `{"\"":1,"\u0022"`, `[{"a":1,"b":[{"c":1,"c"`, `{"a":{"a":1},"a"`, `{"a":{"b":1,"b"`, `{"a":{},"b":{},"b":[[[`, "{\"\xff\":1,\"\xff\"")
	refuses(t, api.ErrJson, `{"a":1,"a`, `{"a":1,"a\q"`, `{"a":1,a`, `{"a":01,"a":1}`, `{"a":1,"b"x,"a":1}`, `{"a":1;"a":1}`, `{"a":1,"a`+"\n\"")
	parses(t, `{"a":{"a":{"a":1}},"b":[{"a":1},{"a":1}]}`, Object([]string{"a", "b"},
		Object([]string{"a"}, Object([]string{"a"}, Num(1))), List(Object([]string{"a"}, Num(1)), Object([]string{"a"}, Num(1)))))
	parses(t, `{"a":1,"A":1,"a ":1," a":1,"aa":1,"":1}`, Object([]string{"a", "A", "a ", " a", "aa", ""}, Num(1), Num(1), Num(1), Num(1), Num(1), Num(1)))
	parses(t, "{\"\xff\":1,\"\xfe\":1,\"\xef\xbf\xbd\":1}", Object([]string{"\xff", "\xfe", "\ufffd"}, Num(1), Num(1), Num(1)))
}

// P18.1: a list or object at depth 17 is told at its bracket, one at depth 16 isn't.
func TestDepth(t *testing.T) {
	outer := []string{"[", `{"a":`, `[0,`, `{"a":"[","b":`, " [ "}
	inner := []string{"[", "{", "[]", "{}", "[[", "{\"a\":1,\"a\"", "[x", "[" + strings.Repeat("9", 30)}
	for _, o := range outer {
		for _, i := range inner {
			refuses(t, api.ErrJsonDeep, strings.Repeat(o, 16)+i, strings.Repeat(o, 15)+outer[len(i)%len(outer)]+i, strings.Repeat(o, 16)+" "+i)
		}
		refuses(t, api.ErrJson, strings.Repeat(o, 16), strings.Repeat(o, 16)+"x[", strings.Repeat(o, 16)+"}", strings.Repeat(o, 15)+"[1[", strings.Repeat(o, 15)+"{[", strings.Repeat(o, 15)+"{\"a\"[")
	}
	want := List()
	for range 15 {
		want = List(want)
	}
	parses(t, strings.Repeat("[", 16)+strings.Repeat("]", 16), want)
	want = Object([]string{"a"}, Null())
	for range 15 {
		want = Object([]string{"a", "b"}, want, Object(nil))
	}
	parses(t, strings.Repeat(`{"a":`, 16)+"null}"+strings.Repeat(`,"b":{}}`, 15), want)
	refuses(t, api.ErrJsonDeep, strings.Repeat("[", 17)+strings.Repeat("]", 17), strings.Repeat("[", 60000))
	// Brackets that are closed again, or stand in a text, add nothing.
	parses(t, strings.Repeat("[", 15)+strings.Repeat("[],", 20)+`"[[["`+strings.Repeat("]", 15), nested(15, append(repeated(List(), 20), Text("[[["))...))
}

// nested: so many lists in one another, the innermost with these items.
func nested(depth int, items ...api.Json) api.Json {
	v := List(items...)
	for range depth - 1 {
		v = List(v)
	}
	return v
}

func repeated(v api.Json, times int) []api.Json {
	var items []api.Json
	for range times {
		items = append(items, v)
	}
	return items
}

// P18.1: a text of more than 65536 bytes is told first of all, one of 65536 bytes is read.
func TestLongTexts(t *testing.T) {
	long := strings.Repeat("a", 65534)
	parses(t, `"`+long+`"`, Text(long))
	refuses(t, api.ErrJsonLong, `"`+long+`a"`, `"`+long+`" `, ` "`+long+`"`, strings.Repeat("[", 65537), strings.Repeat("9", 65537), strings.Repeat(" ", 65537), "x"+strings.Repeat(" ", 65536), `{"a":1,"a":2}`+strings.Repeat(" ", 65536), strings.Repeat("\x00", 1<<20))
	parses(t, strings.Repeat(" ", 65532)+"null", Null())
	parses(t, "null"+strings.Repeat(" ", 65532), Null())
	parses(t, "["+strings.Repeat("0,", 32766)+"10]", List(append(repeated(Num(0), 32766), Num(10))...))
	refuses(t, api.ErrJson, strings.Repeat(" ", 65536), "["+strings.Repeat("0,", 32767)+"]", `"`+long+"a")
	refuses(t, api.ErrJsonDeep, strings.Repeat("[", 65536))
}

// P18.1: the first error from the left is told, not a greater one behind it.
func TestFirstError(t *testing.T) {
	deep := strings.Repeat("[", 17)
	twice := `{"a":1,"a":2}`
	refuses(t, api.ErrJson, "[01,"+deep, "[x,"+twice, "[1,,"+twice, "] "+deep, "[\"\n\","+deep, "[1 "+twice)
	refuses(t, api.ErrJsonDeep, "[1,"+deep+"x", deep+twice, "["+deep+",01]", `{"a":`+deep+`,"a":1}`)
	refuses(t, api.ErrJsonTwice, "["+twice+deep, "["+twice+"x", "["+twice+",01]", `{"a":1,"a":`+deep)
}

// P18.1: with many names in one object, the last of which may stand there already.
func TestManyNames(t *testing.T) {
	var text strings.Builder
	var names []string
	for i := range 7000 {
		names = append(names, fmt.Sprint(i))
		fmt.Fprintf(&text, ",\"%d\":", i)
		text.WriteString("0")
	}
	text.WriteString("}")
	parses(t, "{"+text.String()[1:], Object(names, repeated(Num(0), 7000)...))
	for _, i := range []int{0, 1, 3999, 6999} {
		refuses(t, api.ErrJsonTwice, fmt.Sprintf("{%s,\"%d\":0}", text.String()[1:text.Len()-1], i))
	}
}
