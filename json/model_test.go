package json

import (
	"fmt"
	"math/big"
	"regexp"
	"slices"
	"strings"

	"muster/api"
)

// A plain reading of the chapter: the text is cut into tokens by expressions, and a table says which token may come in which state.

var (
	spaceForm  = regexp.MustCompile(`^[ \t\n\r]+`)
	wordForm   = regexp.MustCompile(`^(null|true|false)`)
	numberForm = regexp.MustCompile(`^-?[0-9]+`)
	textForm   = regexp.MustCompile(`^"([^"\\\x00-\x1f]|\\["\\/bfnrt]|\\u00[0-7][0-9a-fA-F])*"`)
	escapeForm = regexp.MustCompile(`\\(u00[0-7][0-9a-fA-F]|.)`)
	leastNum   = big.NewInt(-1 << 63)
	lastNum    = big.NewInt(1<<63 - 1)
)

// The states: what may come next.
const (
	wantValue = iota
	wantFirstItem
	wantFirstName
	wantName
	wantColon
	wantMore
	wantNothing
)

// model has the lists and objects that are open, the outermost first.
type model struct {
	state int
	open  []api.Json
	names []string
	whole api.Json
}

// modelParse: the value, the error, and whether the error is only that the text ends too early.
func modelParse(text string) (api.Json, api.Errno, bool) {
	if len(text) > 65536 {
		return api.Json{}, 180, false
	}
	var m model
	for {
		text = text[len(spaceForm.FindString(text)):]
		if text == "" {
			break
		}
		size, err := m.token(text)
		if err != 0 {
			return api.Json{}, err, false
		}
		text = text[size:]
	}
	if m.state != wantNothing {
		return api.Json{}, 181, true
	}
	return m.whole, 0, false
}

// token: takes in the token that the text begins with; how long it is.
func (m *model) token(text string) (int, api.Errno) {
	value := m.state == wantValue || m.state == wantFirstItem
	switch c := text[0]; {
	case value && (c == '[' || c == '{'):
		return 1, m.begin(c)
	case m.state == wantFirstItem && c == ']', m.state == wantFirstName && c == '}':
		return 1, m.end()
	case m.state == wantMore && c == map[int]byte{5: ']', 6: '}'}[m.open[len(m.open)-1].Kind]:
		return 1, m.end()
	case m.state == wantMore && c == ',':
		m.state = map[int]int{5: wantValue, 6: wantName}[m.open[len(m.open)-1].Kind]
		return 1, 0
	case m.state == wantColon && c == ':':
		m.state = wantValue
		return 1, 0
	case m.state == wantName || m.state == wantFirstName:
		return m.name(text)
	case value:
		return m.simple(text)
	}
	return 0, 181
}

func (m *model) begin(c byte) api.Errno {
	if len(m.open) == 16 {
		return 182
	}
	m.open = append(m.open, api.Json{Kind: map[byte]int{'[': 5, '{': 6}[c]})
	m.state = map[byte]int{'[': wantFirstItem, '{': wantFirstName}[c]
	return 0
}

func (m *model) end() api.Errno {
	last := len(m.open) - 1
	v := m.open[last]
	m.open = m.open[:last]
	m.have(v)
	return 0
}

// have: takes in a whole value.
func (m *model) have(v api.Json) {
	last := len(m.open) - 1
	if last < 0 {
		m.whole = v
		m.state = wantNothing
		return
	}
	m.open[last].Items = append(m.open[last].Items, v)
	m.state = wantMore
}

func (m *model) name(text string) (int, api.Errno) {
	token := textForm.FindString(text)
	if token == "" {
		return 0, 181
	}
	o := &m.open[len(m.open)-1]
	name := modelText(token)
	if slices.Contains(o.Names, name) {
		return 0, 183
	}
	o.Names = append(o.Names, name)
	m.state = wantColon
	return len(token), 0
}

// simple: takes in a word, a number or a text.
func (m *model) simple(text string) (int, api.Errno) {
	if word := wordForm.FindString(text); word != "" {
		m.have(map[string]api.Json{"null": {Kind: 1}, "true": {Kind: 2, Num: 1}, "false": {Kind: 2}}[word])
		return len(word), 0
	}
	if number := numberForm.FindString(text); number != "" {
		n, _ := new(big.Int).SetString(number, 10)
		if n.String() != number || n.Cmp(leastNum) < 0 || n.Cmp(lastNum) > 0 {
			return 0, 181
		}
		m.have(api.Json{Kind: 3, Num: n.Int64()})
		return len(number), 0
	}
	if token := textForm.FindString(text); token != "" {
		m.have(api.Json{Kind: 4, Text: modelText(token)})
		return len(token), 0
	}
	return 0, 181
}

// modelText: what a right text with its quotes says.
func modelText(token string) string {
	return escapeForm.ReplaceAllStringFunc(token[1:len(token)-1], func(escape string) string {
		if escape[1] != 'u' {
			return map[byte]string{'"': "\"", '\\': "\\", '/': "/", 'b': "\b", 'f': "\f", 'n': "\n", 'r': "\r", 't': "\t"}[escape[1]]
		}
		return string([]byte{modelHex(escape[2:])})
	})
}

// modelHex: the number of four hexadecimal digits.
func modelHex(digits string) byte {
	n, _ := new(big.Int).SetString(digits, 16)
	return byte(n.Int64())
}

// modelSound: by the section Types.
func modelSound(v api.Json) bool { return modelParts(v) && modelDepth(v) <= 16 }

// modelParts: all that makes a value sound but its depth.
func modelParts(v api.Json) bool {
	bare := v
	switch v.Kind {
	case 1:
	case 2, 3:
		bare.Num = 0
	case 4:
		bare.Text = ""
	case 5:
		bare.Items = nil
	case 6:
		bare.Names, bare.Items = nil, nil
	default:
		return false
	}
	if bare.Num != 0 || bare.Text != "" || len(bare.Names)+len(bare.Items) > 0 {
		return false
	}
	if v.Kind == 2 && v.Num != 0 && v.Num != 1 {
		return false
	}
	if v.Kind == 6 {
		names := slices.Compact(slices.Sorted(slices.Values(v.Names)))
		if len(v.Names) != len(v.Items) || len(names) < len(v.Names) {
			return false
		}
	}
	return !slices.ContainsFunc(v.Items, func(item api.Json) bool { return !modelParts(item) })
}

func modelDepth(v api.Json) int {
	if v.Kind != 5 && v.Kind != 6 {
		return 0
	}
	depth := 0
	for _, item := range v.Items {
		depth = max(depth, modelDepth(item))
	}
	return depth + 1
}

// modelPrint: by P18.2.
func modelPrint(v api.Json) (string, api.Errno) {
	if !modelSound(v) {
		return "", 184
	}
	text := modelWrite(v)
	if len(text) > 65536 {
		return "", 180
	}
	return text, 0
}

func modelWrite(v api.Json) string {
	var parts []string
	for i, item := range v.Items {
		part := modelWrite(item)
		if v.Kind == 6 {
			part = modelQuote(v.Names[i]) + ":" + part
		}
		parts = append(parts, part)
	}
	switch v.Kind {
	case 2:
		return fmt.Sprint(v.Num == 1)
	case 3:
		return fmt.Sprint(v.Num)
	case 4:
		return modelQuote(v.Text)
	case 5:
		return "[" + strings.Join(parts, ",") + "]"
	case 6:
		return "{" + strings.Join(parts, ",") + "}"
	}
	return "null"
}

func modelQuote(s string) string {
	var out strings.Builder
	for _, c := range []byte(s) {
		switch short, ok := map[byte]string{'"': `\"`, '\\': `\\`, 8: `\b`, 12: `\f`, 10: `\n`, 13: `\r`, 9: `\t`}[c]; {
		case ok:
			out.WriteString(short)
		case c < 32:
			fmt.Fprintf(&out, "\\u%04x", c)
		default:
			out.WriteByte(c)
		}
	}
	return `"` + out.String() + `"`
}

// same: whether two values are one; a list may be nil or empty.
func same(a, b api.Json) bool {
	return a.Kind == b.Kind && a.Num == b.Num && a.Text == b.Text && slices.Equal(a.Names, b.Names) && slices.EqualFunc(a.Items, b.Items, same)
}
