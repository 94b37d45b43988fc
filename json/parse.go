package json

import (
	"strconv"
	"strings"

	"muster/api"
)

// reader reads a text from the left; at is the place that comes next.
type reader struct {
	text string
	at   int
}

// Parse: the value that s writes.
func Parse(s string) (api.Json, api.Errno) {
	if len(s) > api.MaxJson {
		return api.Json{}, api.ErrJsonLong
	}
	r := reader{text: s}
	v, err := r.value(0)
	if err != api.OK {
		return api.Json{}, err
	}
	if r.at < len(s) {
		return api.Json{}, api.ErrJson
	}
	return v, api.OK
}

// next: the byte that comes next; 0, which can go on no text, at the end.
func (r *reader) next() byte {
	if r.at < len(r.text) {
		return r.text[r.at]
	}
	return 0
}

// take: whether this byte comes next; if so, it is read.
func (r *reader) take(b byte) bool {
	taken := r.at < len(r.text) && r.text[r.at] == b
	if taken {
		r.at++
	}
	return taken
}

// takeWord: whether this word comes next; if so, it is read.
func (r *reader) takeWord(word string) bool {
	taken := strings.HasPrefix(r.text[r.at:], word)
	if taken {
		r.at += len(word)
	}
	return taken
}

func (r *reader) skipSpace() {
	for r.take(' ') || r.take('\t') || r.take('\n') || r.take('\r') {
	}
}

// value: the value that comes next, in so many lists and objects, with the space around it.
func (r *reader) value(outside int) (api.Json, api.Errno) {
	r.skipSpace()
	v, err := r.bareValue(outside)
	r.skipSpace()
	return v, err
}

func (r *reader) bareValue(outside int) (api.Json, api.Errno) {
	switch c := r.next(); {
	case c == '[':
		return r.whole(api.JsonList, ']', outside)
	case c == '{':
		return r.whole(api.JsonObject, '}', outside)
	case c == '"':
		s, err := r.characters()
		return api.Json{Kind: api.JsonText, Text: s}, err
	case c == '-' || isDigit(c):
		return r.number()
	}
	return r.word()
}

func (r *reader) word() (api.Json, api.Errno) {
	switch {
	case r.takeWord(nullWord):
		return Null(), api.OK
	case r.takeWord(trueWord):
		return Bool(true), api.OK
	case r.takeWord(falseWord):
		return Bool(false), api.OK
	}
	return api.Json{}, api.ErrJson
}

func (r *reader) number() (api.Json, api.Errno) {
	begin := r.at
	r.take('-')
	for isDigit(r.next()) {
		r.at++
	}
	text := r.text[begin:r.at]
	n, err := strconv.ParseInt(text, 10, 64)
	// There is one way to write a number: this leaves out noughts ahead and -0.
	if err != nil || strconv.FormatInt(n, 10) != text {
		return api.Json{}, api.ErrJson
	}
	return Num(n), api.OK
}

func isDigit(c byte) bool { return '0' <= c && c <= '9' }

// whole: the list or object whose bracket comes next, in so many others; end is the bracket that ends it.
func (r *reader) whole(kind int, end byte, outside int) (api.Json, api.Errno) {
	if outside == api.MaxDepth {
		return api.Json{}, api.ErrJsonDeep
	}
	r.at++
	r.skipSpace()
	v := api.Json{Kind: kind}
	had := make(map[string]struct{})
	for ended := r.take(end); !ended; {
		if kind == api.JsonObject {
			name, err := r.name(had)
			if err != api.OK {
				return api.Json{}, err
			}
			v.Names = append(v.Names, name)
		}
		item, err := r.value(outside + 1)
		if err != api.OK {
			return api.Json{}, err
		}
		v.Items = append(v.Items, item)
		ended = r.take(end)
		if !ended && !r.take(',') {
			return api.Json{}, api.ErrJson
		}
	}
	return v, api.OK
}

// name: the name that comes next, with its colon; it is written down among those that the object has had.
func (r *reader) name(had map[string]struct{}) (string, api.Errno) {
	r.skipSpace()
	name, err := r.characters()
	if err != api.OK {
		return "", err
	}
	if _, twice := had[name]; twice {
		return "", api.ErrJsonTwice
	}
	had[name] = struct{}{}
	r.skipSpace()
	if !r.take(':') {
		return "", api.ErrJson
	}
	return name, api.OK
}

// characters: what the text that comes next says.
func (r *reader) characters() (string, api.Errno) {
	if !r.take('"') {
		return "", api.ErrJson
	}
	var said []byte
	for !r.take('"') {
		c, ok := r.character()
		if !ok {
			return "", api.ErrJson
		}
		said = append(said, c)
	}
	return string(said), api.OK
}

// character: the byte that the next character stands for, if there is a right one.
func (r *reader) character() (byte, bool) {
	if r.take('\\') {
		return r.escape()
	}
	c := r.next()
	if c < firstCharacter {
		return 0, false
	}
	r.at++
	return c, true
}

// escape: the byte that is meant by what stands behind a backslash.
func (r *reader) escape() (byte, bool) {
	if r.take('u') {
		return r.numbered()
	}
	place := strings.IndexByte(escapeLetters, r.next())
	if place < 0 {
		return 0, false
	}
	r.at++
	return escapeBytes[place], true
}

// numbered: the byte whose number the next four hexadecimal digits are.
func (r *reader) numbered() (byte, bool) {
	const digits = 4
	if len(r.text)-r.at < digits {
		return 0, false
	}
	// In 7 bits there are the numbers below 128 alone.
	n, err := strconv.ParseUint(r.text[r.at:r.at+digits], 16, 7)
	r.at += digits
	return byte(n), err == nil
}
