package http

import (
	"strconv"
	"strings"

	"muster/api"
	"muster/rows"
)

const lengthName = "content-length"

// readHeaders: the length that the header lines at the beginning of the text say, what stands behind the empty line, and whether they are right.
func readHeaders(text string) (int, string, bool) {
	length, said := 0, false
	// The empty line may stand behind as many lines as there may be.
	for range api.MaxHeaders + 1 {
		line, rest, ended := strings.Cut(text, lineEnd)
		if ended && line == "" {
			return length, rest, true
		}
		name, value, ok := readHeader(line)
		if !ended || !ok {
			return 0, "", false
		}
		if rows.Low(name) == lengthName {
			if length, ok = readLength(value); said || !ok {
				return 0, "", false
			}
			said = true
		}
		text = rest
	}
	return 0, "", false
}

// readHeader: a header line's name and value, and whether it is right.
func readHeader(line string) (string, string, bool) {
	name, value, parted := strings.Cut(line, ":")
	ok := parted && isName(name) && isShown(value, ' ')
	return name, strings.Trim(value, " "), ok
}

// isName: has s letters, digits and hyphens alone, and one at least?
func isName(s string) bool {
	for _, b := range []byte(rows.Low(s)) {
		if (b < 'a' || b > 'z') && (b < '0' || b > '9') && b != '-' {
			return false
		}
	}
	return s != ""
}

// readLength: the length that the digits write, and whether a body may have it.
func readLength(digits string) (int, bool) {
	length, err := strconv.Atoi(digits)
	ok := err == nil && length >= 0 && length <= api.MaxHttp && strconv.Itoa(length) == digits
	return length, ok
}
