package http

import (
	"strconv"
	"strings"

	"muster/api"
)

// readTarget: the path's pieces and the parameters that the target writes, and whether it is right.
func readTarget(target string) ([]string, []api.Param, bool) {
	before, after, asks := strings.Cut(target, "?")
	path, ok := readPath(before)
	if !ok || !isShown(target, '!') {
		return nil, nil, false
	}
	if !asks {
		return path, nil, true
	}
	params, ok := readParams(after)
	return path, params, ok
}

// isShown: are all bytes of s from the least one to 126?
func isShown(s string, least byte) bool {
	for i := range len(s) {
		if s[i] < least || s[i] > '~' {
			return false
		}
	}
	return true
}

func readPath(text string) ([]string, bool) {
	inner, ok := strings.CutPrefix(text, "/")
	pieces := strings.Split(inner, "/")
	if !ok || len(pieces) > api.MaxPieces {
		return nil, false
	}
	// What an escape stands for parts nothing: the pieces are parted before they are read.
	for i := range pieces {
		if pieces[i], ok = unescape(pieces[i]); !ok {
			return nil, false
		}
	}
	return pieces, true
}

func readParams(text string) ([]api.Param, bool) {
	pieces := strings.Split(text, "&")
	if len(pieces) > api.MaxPieces {
		return nil, false
	}
	params := make([]api.Param, len(pieces))
	for i, piece := range pieces {
		name, value, _ := strings.Cut(piece, "=")
		name, nameOk := unescape(name)
		value, valueOk := unescape(value)
		if !nameOk || !valueOk || name == "" {
			return nil, false
		}
		params[i] = api.Param{Name: name, Value: value}
	}
	return params, true
}

// unescape: s with each % and its two digits as the byte that they stand for, and whether each % has its digits.
func unescape(s string) (string, bool) {
	head, rest, more := strings.Cut(s, "%")
	plain := []byte(head)
	for more {
		if len(rest) < 2 {
			return "", false
		}
		value, err := strconv.ParseUint(rest[:2], 16, 8)
		if err != nil {
			return "", false
		}
		head, rest, more = strings.Cut(rest[2:], "%")
		plain = append(plain, byte(value))
		plain = append(plain, head...)
	}
	return string(plain), true
}
