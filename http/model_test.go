package http

import (
	"fmt"
	"net/url"
	"reflect"
	"regexp"
	"strconv"
	"strings"

	"muster/api"
)

// A plain reading of the chapter: one expression for each part of a message. Expressions are for letters, so each byte is made the letter of its number.

const (
	pathPart  = `(?:[!-$&-.0->@-~]|%[0-9a-fA-F]{2})*`
	namePart  = `(?:[!-$'-<>-~]|%[0-9a-fA-F]{2})+`
	valuePart = `(?:[!-$'-~]|%[0-9a-fA-F]{2})*`
	paramPart = namePart + `(?:=` + valuePart + `)?`
)

var (
	lineForm     = regexp.MustCompile(`(?s)^([^ ]+) ([^ ]+) HTTP/1\.1$`)
	targetForm   = regexp.MustCompile(`^((?:/` + pathPart + `){1,16})(\?` + paramPart + `(?:&` + paramPart + `){0,15})?$`)
	headerForm   = regexp.MustCompile(`^[0-9A-Za-z-]+:[ -~]*$`)
	lengthForm   = regexp.MustCompile(`^(?i)content-length: *(.*?) *$`)
	digitsForm   = regexp.MustCompile(`^(0|[1-9][0-9]{0,4})$`)
	responseForm = regexp.MustCompile(`(?s)^HTTP/1\.1 ([0-9]{3}) ([A-Za-z ]*)\r\ncontent-length: (0|[1-9][0-9]*)\r\nx-muster-index: (0|[1-9][0-9]*)\r\n\r\n(.*)$`)
	statusForm   = regexp.MustCompile(`^HTTP/1\.1 ([0-9]{3}) `)
)

var statusNames = map[string]string{
	"200": "OK", "400": "Bad Request", "404": "Not Found", "405": "Method Not Allowed",
	"409": "Conflict", "500": "Internal Server Error", "503": "Service Unavailable",
}

func letters(b []byte) string {
	var s strings.Builder
	for _, c := range b {
		s.WriteRune(rune(c))
	}
	return s.String()
}

func bytesOf(letters string) string {
	var b []byte
	for _, c := range letters {
		b = append(b, byte(c))
	}
	return string(b)
}

func modelDecode(b []byte) (api.Request, api.Errno) {
	if len(b) > 65536 {
		return api.Request{}, 190
	}
	lines := strings.Split(letters(b), "\r\n")
	first := lineForm.FindStringSubmatch(lines[0])
	if len(lines) == 1 || first == nil {
		return api.Request{}, 191
	}
	if first[1] != "GET" && first[1] != "PUT" {
		return api.Request{}, 192
	}
	target := targetForm.FindStringSubmatch(first[2])
	if target == nil {
		return api.Request{}, 193
	}
	length, headers := modelLength(lines[1:])
	if headers < 0 {
		return api.Request{}, 194
	}
	body := strings.Join(lines[headers+2:], "\r\n")
	if len([]rune(body)) != length {
		return api.Request{}, 195
	}
	return api.Request{Method: first[1], Path: modelPath(target[1]), Params: modelParams(target[2]), Body: bytesOf(body)}, 0
}

// modelLength: the body's length, and how many header lines there are: -1 if they aren't right.
func modelLength(lines []string) (int, int) {
	length, said := 0, 0
	for i, line := range lines {
		if line == "" && i < len(lines)-1 {
			return length, i
		}
		if i == 32 || !headerForm.MatchString(line) {
			return 0, -1
		}
		if found := lengthForm.FindStringSubmatch(line); found != nil {
			length, _ = strconv.Atoi(found[1])
			if said++; said > 1 || !digitsForm.MatchString(found[1]) || length > 65536 {
				return 0, -1
			}
		}
	}
	return 0, -1
}

func modelPath(path string) []string {
	var pieces []string
	for _, piece := range strings.Split(path, "/")[1:] {
		pieces = append(pieces, modelPlain(piece))
	}
	return pieces
}

func modelParams(asked string) []api.Param {
	if asked == "" {
		return nil
	}
	var params []api.Param
	for _, piece := range strings.Split(asked[1:], "&") {
		parts := append(strings.SplitN(piece, "=", 2), "")
		params = append(params, api.Param{Name: modelPlain(parts[0]), Value: modelPlain(parts[1])})
	}
	return params
}

func modelPlain(s string) string {
	plain, err := url.PathUnescape(s)
	if err != nil {
		panic(err)
	}
	return plain
}

func modelRead(b []byte) (api.Response, api.Errno) {
	text := letters(b)
	status := statusForm.FindStringSubmatch(text)
	if status == nil {
		return api.Response{}, 194
	}
	name, known := statusNames[status[1]]
	if !known {
		return api.Response{}, 196
	}
	parts := responseForm.FindStringSubmatch(text)
	if parts == nil || parts[2] != name {
		return api.Response{}, 194
	}
	number, _ := strconv.Atoi(parts[1])
	index, err := strconv.ParseUint(parts[4], 10, 64)
	body := bytesOf(parts[5])
	if err != nil || strconv.Itoa(len(body)) != parts[3] {
		return api.Response{}, 194
	}
	return api.Response{Status: number, Index: index, Body: body}, 0
}

func modelEncode(r api.Response) (string, api.Errno) {
	name, known := statusNames[strconv.Itoa(r.Status)]
	if !known {
		return "", 196
	}
	return fmt.Sprintf("HTTP/1.1 %d %s\r\ncontent-length: %d\r\nx-muster-index: %d\r\n\r\n%s", r.Status, name, len(r.Body), r.Index, r.Body), 0
}

// sameRequest: are two requests like, where a list that is nil is like one that is empty?
func sameRequest(a, b api.Request) bool {
	return a.Method == b.Method && a.Body == b.Body &&
		(len(a.Path)+len(b.Path) == 0 || reflect.DeepEqual(a.Path, b.Path)) &&
		(len(a.Params)+len(b.Params) == 0 || reflect.DeepEqual(a.Params, b.Params))
}
