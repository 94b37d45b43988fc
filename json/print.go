package json

import (
	"strconv"
	"strings"

	"muster/api"
)

// Print: the value's text.
func Print(v api.Json) (string, api.Errno) {
	if !sound(v, 0) {
		return "", api.ErrJsonValue
	}
	text := appendValue(nil, v)
	if tooLong(text) {
		return "", api.ErrJsonLong
	}
	return string(text), api.OK
}

// sound: whether a value that lies in so many lists and objects is sound, so that it can be written.
func sound(v api.Json, outside int) bool {
	switch v.Kind {
	case api.JsonNull:
		return v.Num == 0 && v.Text == "" && !hasParts(v)
	case api.JsonBool:
		return (v.Num == 0 || v.Num == 1) && v.Text == "" && !hasParts(v)
	case api.JsonNum:
		return v.Text == "" && !hasParts(v)
	case api.JsonText:
		return v.Num == 0 && !hasParts(v)
	case api.JsonList:
		return v.Num == 0 && v.Text == "" && len(v.Names) == 0 && soundItems(v.Items, outside)
	case api.JsonObject:
		return v.Num == 0 && v.Text == "" && len(v.Names) == len(v.Items) && soundItems(v.Items, outside) && unlike(v.Names)
	}
	return false
}

func hasParts(v api.Json) bool { return len(v.Names) > 0 || len(v.Items) > 0 }

// soundItems: whether the items of a list or object that lies in so many others are sound, and it lies in few enough.
func soundItems(items []api.Json, outside int) bool {
	if outside >= api.MaxDepth {
		return false
	}
	for _, item := range items {
		if !sound(item, outside+1) {
			return false
		}
	}
	return true
}

// unlike: whether no name is there twice.
func unlike(names []string) bool {
	had := make(map[string]struct{}, len(names))
	for _, name := range names {
		had[name] = struct{}{}
	}
	return len(had) == len(names)
}

// tooLong: whether a text is longer than a text may be. Nothing needs to be added to it then.
func tooLong(text []byte) bool { return len(text) > api.MaxJson }

// appendValue: the text with the value behind it, or a beginning of that which is too long.
func appendValue(text []byte, v api.Json) []byte {
	switch v.Kind {
	case api.JsonBool:
		if v.Num == 1 {
			return append(text, trueWord...)
		}
		return append(text, falseWord...)
	case api.JsonNum:
		return strconv.AppendInt(text, v.Num, 10)
	case api.JsonText:
		return appendText(text, v.Text)
	case api.JsonList:
		return append(appendItems(append(text, '['), v), ']')
	case api.JsonObject:
		return append(appendItems(append(text, '{'), v), '}')
	}
	return append(text, nullWord...)
}

// appendItems: the text with the items behind it, each with its name, if it has one.
func appendItems(text []byte, v api.Json) []byte {
	for i, item := range v.Items {
		if tooLong(text) {
			return text
		}
		if i > 0 {
			text = append(text, ',')
		}
		if v.Kind == api.JsonObject {
			text = append(appendText(text, v.Names[i]), ':')
		}
		text = appendValue(text, item)
	}
	return text
}

// appendText: the text with a text in quotes behind it.
func appendText(text []byte, s string) []byte {
	text = append(text, '"')
	for i := 0; i < len(s) && !tooLong(text); i++ {
		text = appendCharacter(text, s[i])
	}
	return append(text, '"')
}

func appendCharacter(text []byte, c byte) []byte {
	place := strings.IndexByte(escapeBytes, c)
	switch {
	case place >= 0 && c != '/':
		return append(text, '\\', escapeLetters[place])
	case c < firstCharacter:
		const digits = "0123456789abcdef"
		return append(text, '\\', 'u', '0', '0', digits[c>>4], digits[c&15])
	}
	return append(text, c)
}
