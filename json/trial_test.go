package json

import (
	stdjson "encoding/json"
	"fmt"
	"math/rand"
	"strconv"
	"strings"
	"testing"

	"muster/api"
)

// asModel: Parse must say of a text what the plain reading says; whether it is only that the text ends too early.
func asModel(t *testing.T, text string) bool {
	t.Helper()
	want, wantErr, open := modelParse(text)
	v, err := Parse(text)
	if err != wantErr || !same(v, want) {
		t.Fatalf("%q: %+v, %d, not %+v, %d", text, v, err, want, wantErr)
	}
	if err == api.OK {
		printsShorter(t, text, v)
	}
	return open || err == api.OK
}

// printsShorter: what the text said must be printed as the plain reading prints it, in no more bytes (P18.3).
func printsShorter(t *testing.T, text string, v api.Json) {
	t.Helper()
	want, wantErr := modelPrint(v)
	printed, err := Print(v)
	if err != api.OK || wantErr != api.OK || printed != want || len(printed) > len(text) {
		t.Fatalf("%q: %q, %d, not %q, %d", text, printed, err, want, wantErr)
	}
	if again, err := Parse(printed); err != api.OK || !same(again, v) {
		t.Fatalf("%q: %+v, %d, not %+v", printed, again, err, v)
	}
}

// grow: all texts of so many more of these pieces behind one that can go on, and each that ends behind one that can't.
func grow(t *testing.T, text string, pieces []string, more int) {
	if !asModel(t, text) || more == 0 {
		return
	}
	for _, piece := range pieces {
		grow(t, text+piece, pieces, more-1)
	}
}

// P18.1, P18.3: all short texts of a few bytes, of which a text that can't go on is followed no further.
func TestShortTexts(t *testing.T) {
	for _, c := range []struct {
		bytes string
		more  int
	}{
		{"[]{},:\"a1 ", 6},
		{"-0123456789.", 5},
		{"\"\\u0/bF7\n", 6},
		{"nultrefas ", 6},
		{"[1,] \n", 8},
		{"{\"a:1,} ", 9},
	} {
		grow(t, "", strings.Split(c.bytes, ""), c.more)
	}
}

// P18.1, P18.3: all texts of few tokens, which twice and deep ones are among.
func TestTokens(t *testing.T) {
	grow(t, "", []string{"[", "]", "{", "}", ",", ":", `"a"`, `"\u0061"`, "0", "true "}, 7)
	grow(t, "", []string{"{", "}", `"a":`, `"b":`, ",", "1"}, 9)
	for depth := range 18 {
		for _, open := range []string{"[", `{"a":`, `[1,`} {
			grow(t, strings.Repeat(open, depth), []string{"[", "]", "{", "}", ",", `"a":`, "2"}, 4)
		}
	}
}

// P18.1, P18.3: each byte at each place of a few texts, and each of them cut short there.
func TestEachByte(t *testing.T) {
	for _, text := range []string{
		` { "a" : [ 1 , -20 , "x\u000A\n" ] , "" : { } } `, "[null,true,false,[],{}]", `{"a":{"a":9223372036854775807},"b":-9223372036854775808}`,
		strings.Repeat("[", 16) + "1" + strings.Repeat("]", 16), `{"a":1,"a":2}`, `{"\u0061":1,"b":"\\\"\/"}`,
	} {
		for i := range len(text) + 1 {
			asModel(t, text[:i])
			asModel(t, text[i:])
			for b := range 256 {
				c := string([]byte{byte(b)})
				asModel(t, text[:i]+c+text[i:])
				if i < len(text) {
					asModel(t, text[:i]+c+text[i+1:])
					asModel(t, text[:i]+text[i+1:])
				}
			}
		}
	}
}

// dice makes values and texts at random.
type dice struct{ *rand.Rand }

// text: a text of few bytes, among them those that are written in ways of their own.
func (d dice) text() string {
	b := make([]byte, d.Intn(6))
	for i := range b {
		if d.Intn(2) == 0 {
			b[i] = "ab\"\\/\b\f\n\r\t\x00\x1f \x7f\x80\xff"[d.Intn(16)]
		} else {
			b[i] = byte(d.Intn(256))
		}
	}
	return string(b)
}

func (d dice) num() int64 {
	n := int64(d.Uint64() >> d.Intn(64))
	if d.Intn(2) == 0 {
		return -n
	}
	return n
}

// value: a value of at most this depth.
func (d dice) value(depth int) api.Json {
	kind := min(1+d.Intn(8), 5+d.Intn(2))
	if depth == 0 {
		kind = 1 + d.Intn(4)
	}
	switch kind {
	case api.JsonBool:
		return Bool(d.Intn(2) == 0)
	case api.JsonNum:
		return Num(d.num())
	case api.JsonText:
		return Text(d.text())
	case api.JsonList, api.JsonObject:
		v := api.Json{Kind: kind}
		for range d.Intn(4) {
			name := d.text()
			if _, had := Field(api.Json{Kind: api.JsonObject, Names: v.Names, Items: v.Items}, name); kind == api.JsonObject && had {
				continue
			}
			v.Items = append(v.Items, d.value(depth-1))
			if kind == api.JsonObject {
				v.Names = append(v.Names, name)
			}
		}
		return v
	}
	return Null()
}

func (d dice) space() string {
	var s strings.Builder
	for range d.Intn(3) * d.Intn(2) {
		s.WriteByte(" \t\n\r"[d.Intn(4)])
	}
	return s.String()
}

// write: the value with space and with characters written in any way.
func (d dice) write(v api.Json) string {
	out := d.space()
	switch v.Kind {
	case api.JsonText:
		out += d.quote(v.Text)
	case api.JsonList:
		var parts []string
		for _, item := range v.Items {
			parts = append(parts, d.write(item))
		}
		out += "[" + d.space() + strings.Join(parts, ",") + "]"
	case api.JsonObject:
		var parts []string
		for i, item := range v.Items {
			parts = append(parts, d.space()+d.quote(v.Names[i])+d.space()+":"+d.write(item))
		}
		out += "{" + d.space() + strings.Join(parts, ",") + "}"
	default:
		out += modelWrite(v)
	}
	return out + d.space()
}

func (d dice) quote(s string) string {
	out := `"`
	for _, c := range []byte(s) {
		short := strings.IndexByte("\"\\/\b\f\n\r\t", c)
		switch {
		case c < 128 && d.Intn(4) == 0:
			out += fmt.Sprintf([]string{`\u%04x`, `\u%04X`}[d.Intn(2)], c)
		case short >= 0 && (c != '/' || d.Intn(2) == 0):
			out += `\` + `"\/bfnrt`[short:short+1]
		case c < 32:
			out += fmt.Sprintf(`\u%04x`, c)
		default:
			out += string([]byte{c})
		}
	}
	return out + `"`
}

// spoilText: the text with a few bytes others, away, or there once more.
func (d dice) spoilText(text string) string {
	for range 1 + d.Intn(3) {
		if text == "" {
			return "x"
		}
		from := d.Intn(len(text))
		to := min(from+d.Intn(6), len(text))
		switch d.Intn(4) {
		case 0:
			text = text[:from] + text[to:]
		case 1:
			text = text[:to] + text[from:]
		case 2:
			text = text[:from] + `[]{},:"\u0019-ntf `[d.Intn(18):][:1] + text[from:]
		default:
			text = text[:from] + string([]byte{byte(d.Intn(256))}) + text[from+1:]
		}
	}
	return text
}

// P18.1 to P18.3: values at random, written in any way, are read as they are, and printed the shortest way; spoilt texts are refused as the plain reading refuses them.
func TestRandomTexts(t *testing.T) {
	d := dice{rand.New(rand.NewSource(18))}
	for range 20000 {
		v := d.value(d.Intn(8))
		text := d.write(v)
		parses(t, text, v)
		printsShorter(t, text, v)
		asModel(t, d.spoilText(text))
		asModel(t, d.spoilText(modelWrite(v)))
	}
}

// P18.1: a name that is there twice, at random.
func TestRandomTwice(t *testing.T) {
	d := dice{rand.New(rand.NewSource(19))}
	for range 20000 {
		var parts []string
		for range 2 + d.Intn(4) {
			parts = append(parts, d.space()+d.quote("ab"[:d.Intn(3)])+d.space()+":"+d.write(d.value(2)))
		}
		text := "{" + strings.Join(parts, ",") + "}"
		asModel(t, text)
		asModel(t, d.spoilText(text))
	}
}

// unsettle: something in a value, or in an item of it, is made another.
func (d dice) unsettle(v *api.Json) {
	if len(v.Items) > 0 && d.Intn(3) > 0 {
		d.unsettle(&v.Items[d.Intn(len(v.Items))])
		return
	}
	switch d.Intn(6) {
	case 0:
		v.Kind = d.Intn(9) - 1
	case 1:
		v.Num = int64(d.Intn(4) - 1)
	case 2:
		v.Text = "ab"[:d.Intn(3)]
	case 3:
		v.Names = append(v.Names, d.text())
	case 4:
		v.Items = append(v.Items, d.value(1))
	default:
		if len(v.Names) > 0 {
			v.Names[d.Intn(len(v.Names))] = v.Names[0]
		}
	}
}

// P18.2, P18.3: values of which something was made another are printed if they are still sound.
func TestRandomValues(t *testing.T) {
	d := dice{rand.New(rand.NewSource(20))}
	sound := 0
	for range 60000 {
		v := d.value(d.Intn(6))
		for range d.Intn(3) {
			d.unsettle(&v)
		}
		want, wantErr := modelPrint(v)
		text, err := Print(v)
		if text != want || err != wantErr {
			t.Fatalf("%+v: %q, %d, not %q, %d", v, text, err, want, wantErr)
		}
		if err == api.OK {
			sound++
			parses(t, text, v)
		}
	}
	if sound < 10000 || sound > 50000 {
		t.Error(sound)
	}
}

// P18.2: values with a list or object at any depth, round the greatest one.
func TestRandomDepths(t *testing.T) {
	d := dice{rand.New(rand.NewSource(21))}
	for range 5000 {
		v := d.value(2)
		for range 10 + d.Intn(9) {
			if d.Intn(2) == 0 {
				v = List(Num(1), v)
			} else {
				v = Object([]string{"a", "b"}, v, d.value(1))
			}
		}
		want, wantErr := modelPrint(v)
		if text, err := Print(v); text != want || err != wantErr {
			t.Fatalf("%+v: %q, %d, not %q, %d", v, text, err, want, wantErr)
		}
		asModel(t, modelWrite(v))
		asModel(t, d.write(v))
	}
}

// P18.2, P18.3: another reader of JSON reads what is printed as the same value.
func TestAnotherReader(t *testing.T) {
	d := dice{rand.New(rand.NewSource(22))}
	for range 20000 {
		v := d.value(5)
		text, err := Print(v)
		if err != api.OK {
			t.Fatal(v, err)
		}
		if strings.ContainsFunc(text, func(r rune) bool { return r > 126 }) {
			continue
		}
		from := stdjson.NewDecoder(strings.NewReader(text))
		from.UseNumber()
		var other any
		if err := from.Decode(&other); err != nil || !isOther(v, other) {
			t.Fatalf("%q: %v, %v", text, other, err)
		}
	}
}

// isOther: whether a value is the one that the other reader has read.
func isOther(v api.Json, other any) bool {
	switch o := other.(type) {
	case bool:
		return same(v, Bool(o))
	case stdjson.Number:
		n, err := strconv.ParseInt(o.String(), 10, 64)
		return err == nil && same(v, Num(n))
	case string:
		return same(v, Text(o))
	case []any:
		if v.Kind != api.JsonList || len(o) != len(v.Items) {
			return false
		}
		for i := range o {
			if !isOther(v.Items[i], o[i]) {
				return false
			}
		}
		return true
	case map[string]any:
		if v.Kind != api.JsonObject || len(o) != len(v.Items) {
			return false
		}
		for i, name := range v.Names {
			item, ok := o[name]
			if !ok || !isOther(v.Items[i], item) {
				return false
			}
		}
		return true
	}
	return same(v, Null())
}
