// Package keys is layer 1: see shared/doc/01-keys.md. It writes lists of typed parts as texts of bytes that keep their order.
package keys

import (
	"cmp"

	"muster/api"
)

// Within a text the byte zero is followed by one of two marks. The end's mark is the lesser one, so a text stands ahead of those that go on with a byte 0.
const (
	zero     = 0
	endMark  = 1
	zeroMark = 255
)

// The lengths of the pieces that have no end mark.
const (
	numPiece  = 9
	flagPiece = 2
)

// Encode: the key of a list of parts.
func Encode(parts []api.Part) (string, api.Errno) {
	return write(parts, false)
}

// Begin: as Encode, with the last text left open.
func Begin(parts []api.Part) (string, api.Errno) {
	return write(parts, true)
}

// Decode: the list whose key it is.
func Decode(key string) ([]api.Part, api.Errno) {
	if len(key) > api.MaxKey {
		return nil, api.ErrKeyLong
	}
	var parts []api.Part
	for at := 0; at < len(key); {
		part, length := readPiece(key[at:])
		if length == 0 {
			return nil, api.ErrKey
		}
		parts = append(parts, part)
		at += length
	}
	return parts, api.OK
}

// Compare: the order of two lists.
func Compare(a, b []api.Part) (int, api.Errno) {
	if !allValid(a) || !allValid(b) {
		return 0, api.ErrPart
	}
	for i := range min(len(a), len(b)) {
		if a[i] == b[i] {
			continue
		}
		return compareParts(a[i], b[i]), api.OK
	}
	return cmp.Compare(len(a), len(b)), api.OK
}

// After: the least text behind all that begin with prefix.
func After(prefix string) (string, bool) {
	end := len(prefix)
	for end > 0 && prefix[end-1] == 255 {
		end--
	}
	if end == 0 {
		return "", false
	}
	after := []byte(prefix[:end])
	after[end-1]++
	return string(after), true
}

// valid: is the kind one of the three, and what it doesn't use zero?
func valid(p api.Part) bool {
	switch p.Kind {
	case api.PartText:
		return p.Num == 0
	case api.PartFlag:
		if p.Num > 1 {
			return false
		}
		// For the rest a flag is a small number.
		fallthrough
	case api.PartNum:
		return p.Text == ""
	}
	return false
}

func allValid(parts []api.Part) bool {
	for _, p := range parts {
		if !valid(p) {
			return false
		}
	}
	return true
}

// compareParts: the order of two valid parts. Those of one kind can differ in the one field alone that the kind uses.
func compareParts(a, b api.Part) int {
	if a.Kind != b.Kind {
		return cmp.Compare(a.Kind, b.Kind)
	}
	if a.Kind == api.PartText {
		return cmp.Compare(a.Text, b.Text)
	}
	return cmp.Compare(a.Num, b.Num)
}

// write: the key of the parts, or, if open, the beginning that a last text leaves open.
func write(parts []api.Part, open bool) (string, api.Errno) {
	if !allValid(parts) {
		return "", api.ErrPart
	}
	var key []byte
	for i, p := range parts {
		// A text is longer written than it is itself: one that has no room now need not be written to know.
		if len(key)+len(p.Text) > api.MaxKey {
			return "", api.ErrKeyLong
		}
		key = appendPiece(key, p, open && i == len(parts)-1)
		if len(key) > api.MaxKey {
			return "", api.ErrKeyLong
		}
	}
	return string(key), api.OK
}

// appendPiece: the key with a valid part's piece behind it; a text's is left without its end, if open.
func appendPiece(key []byte, p api.Part, open bool) []byte {
	// The kinds' numbers are the pieces' first bytes: they keep the order of the kinds.
	key = append(key, byte(p.Kind))
	switch p.Kind {
	case api.PartText:
		key = appendText(key, p.Text)
		if !open {
			key = append(key, zero, endMark)
		}
	case api.PartNum:
		key = appendNum(key, p.Num)
	case api.PartFlag:
		key = append(key, byte(p.Num))
	}
	return key
}

func appendText(key []byte, text string) []byte {
	for i := range len(text) {
		key = append(key, text[i])
		if text[i] == zero {
			key = append(key, zeroMark)
		}
	}
	return key
}

func appendNum(key []byte, num uint64) []byte {
	for shift := 56; shift >= 0; shift -= 8 {
		key = append(key, byte(num>>shift))
	}
	return key
}

// readPiece: the part whose piece the text (not empty) begins with, and the piece's length; 0 if there is none.
func readPiece(text string) (api.Part, int) {
	switch text[0] {
	case api.PartText:
		return readText(text)
	case api.PartNum:
		return readNum(text)
	case api.PartFlag:
		return readFlag(text)
	}
	return api.Part{}, 0
}

func readText(text string) (api.Part, int) {
	var plain []byte
	// The last byte of a piece is a mark, so each byte that is looked at here must have one behind it.
	for at := 1; at+1 < len(text); at++ {
		if text[at] != zero {
			plain = append(plain, text[at])
			continue
		}
		at++
		if text[at] == endMark {
			return api.Part{Kind: api.PartText, Text: string(plain)}, at + 1
		}
		if text[at] != zeroMark {
			return api.Part{}, 0
		}
		plain = append(plain, zero)
	}
	return api.Part{}, 0
}

func readNum(text string) (api.Part, int) {
	if len(text) < numPiece {
		return api.Part{}, 0
	}
	num := uint64(0)
	for i := 1; i < numPiece; i++ {
		num = num<<8 | uint64(text[i])
	}
	return api.Part{Kind: api.PartNum, Num: num}, numPiece
}

func readFlag(text string) (api.Part, int) {
	if len(text) < flagPiece || text[1] > 1 {
		return api.Part{}, 0
	}
	return api.Part{Kind: api.PartFlag, Num: uint64(text[1])}, flagPiece
}
