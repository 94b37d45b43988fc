package http

import (
	"strconv"
	"strings"

	"muster/api"
)

// Encode: the response's bytes.
func Encode(r api.Response) ([]byte, api.Errno) {
	name := statusName(r.Status)
	if name == "" {
		return nil, api.ErrStatusNo
	}
	b := []byte(version + " " + strconv.Itoa(r.Status) + " " + name + lineEnd)
	b = append(b, lengthName+": "+strconv.Itoa(len(r.Body))+lineEnd...)
	b = append(b, "x-muster-index: "+strconv.FormatUint(r.Index, 10)+lineEnd+lineEnd...)
	return append(b, r.Body...), api.OK
}

// statusName: the status's name; "" of another one.
func statusName(status int) string {
	switch status {
	case 200:
		return "OK"
	case 400:
		return "Bad Request"
	case 404:
		return "Not Found"
	case 405:
		return "Method Not Allowed"
	case 409:
		return "Conflict"
	case 500:
		return "Internal Server Error"
	case 503:
		return "Service Unavailable"
	}
	return ""
}

// Read: the response of which b is the Encode.
func Read(b []byte) (api.Response, api.Errno) {
	text := string(b)
	status, ok := readStatus(text)
	if !ok {
		return api.Response{}, api.ErrHeader
	}
	if statusName(status) == "" {
		return api.Response{}, api.ErrStatusNo
	}
	head, body, _ := strings.Cut(text, lineEnd+lineEnd)
	// No number, no index: then the 0 that is taken for it doesn't stand there.
	index, _ := strconv.ParseUint(head[strings.LastIndex(head, " ")+1:], 10, 64)
	r := api.Response{Status: status, Index: index, Body: body}
	if whole, _ := Encode(r); string(whole) != text {
		return api.Response{}, api.ErrHeader
	}
	return r, api.OK
}

// readStatus: the number of the three digits in the first line, and whether the text begins as a response does.
func readStatus(text string) (int, bool) {
	rest, ok := strings.CutPrefix(text, version+" ")
	if !ok || len(rest) < 4 || rest[3] != ' ' {
		return 0, false
	}
	// Of an unsigned number no sign counts as its first digit.
	status, err := strconv.ParseUint(rest[:3], 10, 16)
	return int(status), err == nil
}
