package http

import (
	"bufio"
	"bytes"
	"io"
	"math"
	"math/rand"
	nethttp "net/http"
	"strconv"
	"strings"
	"testing"

	"muster/api"
)

var statuses = []int{200, 400, 404, 405, 409, 500, 503}

// reads: Read must say this of the text, and so must the plain reading.
func reads(t *testing.T, text string, want api.Response, wantErr api.Errno) {
	t.Helper()
	if r, err := Read([]byte(text)); r != want || err != wantErr {
		t.Errorf("%.300q: %+v, %d, not %+v, %d", text, r, err, want, wantErr)
	}
	if r, err := modelRead([]byte(text)); r != want || err != wantErr {
		t.Errorf("%.300q: the plain reading says %+v, %d, not %+v, %d", text, r, err, want, wantErr)
	}
}

// unread: each text must be answered with this error and a zero response.
func unread(t *testing.T, wantErr api.Errno, texts ...string) {
	t.Helper()
	for _, text := range texts {
		reads(t, text, api.Response{}, wantErr)
	}
}

// P19.2, P19.3: the bytes of a response, which Read reads again.
func TestEncode(t *testing.T) {
	for text, r := range map[string]api.Response{
		"HTTP/1.1 200 OK\r\ncontent-length: 0\r\nx-muster-index: 0\r\n\r\n":                                                     {Status: 200},
		"HTTP/1.1 400 Bad Request\r\ncontent-length: 1\r\nx-muster-index: 1\r\n\r\nx":                                           {Status: 400, Index: 1, Body: "x"},
		"HTTP/1.1 404 Not Found\r\ncontent-length: 2\r\nx-muster-index: 7\r\n\r\n{}":                                            {Status: 404, Index: 7, Body: "{}"},
		"HTTP/1.1 405 Method Not Allowed\r\ncontent-length: 4\r\nx-muster-index: 10\r\n\r\n\r\n\r\n":                            {Status: 405, Index: 10, Body: "\r\n\r\n"},
		"HTTP/1.1 409 Conflict\r\ncontent-length: 2\r\nx-muster-index: 18446744073709551615\r\n\r\né":                           {Status: 409, Index: math.MaxUint64, Body: "é"},
		"HTTP/1.1 500 Internal Server Error\r\ncontent-length: 2\r\nx-muster-index: 9223372036854775808\r\n\r\n\x00\xff":        {Status: 500, Index: 1 << 63, Body: "\x00\xff"},
		"HTTP/1.1 503 Service Unavailable\r\ncontent-length: 10\r\nx-muster-index: 4\r\n\r\n0123456789":                         {Status: 503, Index: 4, Body: "0123456789"},
		"HTTP/1.1 200 OK\r\ncontent-length: 23\r\nx-muster-index: 4\r\n\r\nx-muster-index: 5\r\n\r\n 6":                         {Status: 200, Index: 4, Body: "x-muster-index: 5\r\n\r\n 6"},
		"HTTP/1.1 200 OK\r\ncontent-length: 65537\r\nx-muster-index: 4\r\n\r\n" + strings.Repeat("a", 65537):                    {Status: 200, Index: 4, Body: strings.Repeat("a", 65537)},
		"HTTP/1.1 200 OK\r\ncontent-length: 1048576\r\nx-muster-index: 4\r\n\r\n" + strings.Repeat("\r\n", 1<<19):               {Status: 200, Index: 4, Body: strings.Repeat("\r\n", 1<<19)},
		"HTTP/1.1 503 Service Unavailable\r\ncontent-length: 1\r\nx-muster-index: 12345678901234567890\r\n\r\n" + "\n":          {Status: 503, Index: 12345678901234567890, Body: "\n"},
		"HTTP/1.1 503 Service Unavailable\r\ncontent-length: 32\r\nx-muster-index: 0\r\n\r\nHTTP/1.1 200 OK\r\ncontent-length:": {Status: 503, Body: "HTTP/1.1 200 OK\r\ncontent-length:"},
	} {
		if want, _ := modelEncode(r); want != text {
			t.Errorf("the plain writing is %.300q, not %.300q", want, text)
		}
		b, err := Encode(r)
		if string(b) != text || err != 0 {
			t.Errorf("%.300q, %d, not %.300q", b, err, text)
		}
		reads(t, string(b), r, 0)
	}
}

// P19.2: another status than the seven is an error, whatever stands beside it.
func TestStatuses(t *testing.T) {
	known := map[int]bool{}
	for _, status := range statuses {
		known[status] = true
	}
	numbers := []int{-200, math.MinInt, math.MaxInt, 200 + 1<<32, 200 + 1<<16, 200 + 256, 2000}
	for status := range 1100 {
		numbers = append(numbers, status)
	}
	for _, status := range numbers {
		b, err := Encode(api.Response{Status: status, Index: 3, Body: "x"})
		if known[status] != (err == 0) || !known[status] && (err != 196 || len(b) != 0) {
			t.Errorf("%d: %q, %d", status, b, err)
		}
	}
}

// P19.2: another reader of HTTP reads what is written.
func TestOtherReader(t *testing.T) {
	for _, status := range statuses {
		for _, body := range []string{"", "x", "\r\n\r\n", strings.Repeat("é\x00", 5000)} {
			b, err := Encode(api.Response{Status: status, Index: 1<<64 - 1, Body: body})
			if err != 0 {
				t.Fatal(err)
			}
			r, fault := nethttp.ReadResponse(bufio.NewReader(bytes.NewReader(b)), nil)
			if fault != nil {
				t.Fatal(fault)
			}
			got, fault := io.ReadAll(r.Body)
			if fault != nil || string(got) != body || r.StatusCode != status || r.Status != strconv.Itoa(status)+" "+nethttp.StatusText(status) {
				t.Errorf("%q, %v, %q", got, fault, r.Status)
			}
			if r.ContentLength != int64(len(body)) || len(r.Header) != 2 || r.Header.Get("x-muster-index") != "18446744073709551615" {
				t.Error(r.ContentLength, r.Header)
			}
		}
	}
}

// P19.3: ErrHeader for bytes that are the Encode of none.
func TestReadRefuses(t *testing.T) {
	right := "HTTP/1.1 200 OK\r\ncontent-length: 2\r\nx-muster-index: 10\r\n\r\nxy"
	reads(t, right, api.Response{Status: 200, Index: 10, Body: "xy"}, 0)
	for i := range right {
		unread(t, 194, right[:i])
		if i > 0 {
			unread(t, 194, right[i:])
		}
	}
	for _, change := range [][2]string{
		{"xy", "xyz"}, {"xy", "x"}, {"xy", ""}, {"length: 2", "length: 02"}, {"length: 2", "length: +2"}, {"length: 2", "length: 3"}, {"length: 2", "length:2"},
		{"length: 2", "length:  2"}, {"length: 2", "length: 2 "}, {"length: 2", "length: "}, {"length: 2", "length: 18446744073709551618"}, {"content", "Content"},
		{"index: 10", "index: 010"}, {"index: 10", "index: +10"}, {"index: 10", "index: -10"}, {"index: 10", "index: "}, {"index: 10", "index:10"}, {"index: 10", "index: 10 "},
		{"index: 10", "index: 18446744073709551616"}, {"index: 10", "index: 18446744073709551626"}, {"index: 10", "index: 1_0"}, {"index: 10", "index: 0x10"}, {"index: 10", "index: 1 0"},
		{"index: 10", "index: x"}, {"index: 10", "index: 99999999999999999999999"}, {"index: 10", "index: 00"}, {"x-muster", "X-Muster"},
		{"OK", "ok"}, {"OK", ""}, {"OK", "Not Found"}, {"OK", "OK "}, {"200", "404"}, {" OK", ""}, {"HTTP/1.1", "HTTP/1.0"}, {"HTTP/1.1", "http/1.1"}, {"HTTP/1.1", " HTTP/1.1"},
		{"200 ", "200\t"}, {"200", "0200"}, {"200", "2000"}, {"200", "20"}, {"200", "+20"}, {"200", "-20"}, {"200", "2_0"}, {"200", "2 0"}, {"200", " 200"}, {"200", "20x"}, {"200", "x00"}, {"200", "２00"},
		{"\r\n\r\n", "\r\n"}, {"\r\n\r\n", "\r\na: b\r\n\r\n"}, {"\r\n\r\n", "\n\n"}, {"\r\n\r\n", "\r\n\r\n\r\n"}, {"OK\r\n", "OK\n"}, {"OK\r\n", "OK\r\na: b\r\n"}, {"2\r\n", "2\n"},
		{"content-length: 2\r\nx-muster-index: 10\r\n", "x-muster-index: 10\r\ncontent-length: 2\r\n"}, {"content-length: 2\r\n", ""}, {"x-muster-index: 10\r\n", ""},
	} {
		changed := strings.Replace(right, change[0], change[1], 1)
		if changed == right {
			t.Errorf("%q changes nothing", change)
		}
		unread(t, 194, changed)
	}
	unread(t, 194, "", "H", "GET / HTTP/1.1\r\n\r\n", "HTTP/1.1 ", "HTTP/1.1 201", "HTTP/1.1 20 ", "HTTP/1.1 201\r\n", "HTTP/1.1  201 ", "HTTP/1.1 2011 ", strings.Repeat("x", 1<<20))
}

// P19.3: ErrStatusNo for three digits that are no status, whatever stands behind the blank.
func TestReadStatuses(t *testing.T) {
	for status := range 1000 {
		digits := strconv.Itoa(1000 + status)[1:]
		wantErr := api.Errno(196)
		if _, ok := statusNames[digits]; ok {
			wantErr = 194
		}
		unread(t, wantErr, "HTTP/1.1 "+digits+" ", "HTTP/1.1 "+digits+" Created\r\ncontent-length: 0\r\nx-muster-index: 0\r\n\r\n", "HTTP/1.1 "+digits+" \x00")
		unread(t, 194, digits+" OK", "HTTP/1.1 "+digits, "HTTP/1.1 "+digits+"\r\n", "HTTP/1.0 "+digits+" OK", "HTTP/1.1 "+digits+"0 OK", "HTTP/1.1  "+digits+" OK", "http/1.1 "+digits+" OK")
	}
}

// P19.2, P19.3: random responses go through both calls and stay what they are.
func TestRandomResponses(t *testing.T) {
	random := rand.New(rand.NewSource(19))
	for range 20000 {
		body := make([]byte, random.Intn(12))
		for i := range body {
			body[i] = "\r\n: x0\xff"[random.Intn(7)]
		}
		r := api.Response{Status: statuses[random.Intn(7)], Index: random.Uint64() >> random.Intn(64), Body: string(body)}
		b, err := Encode(r)
		if want, _ := modelEncode(r); string(b) != want || err != 0 {
			t.Fatalf("%q, %d, not %q", b, err, want)
		}
		reads(t, string(b), r, 0)
		spoilt := spoil(random, b)
		want, wantErr := modelRead(spoilt)
		reads(t, string(spoilt), want, wantErr)
	}
}

// P19.3: each byte at each place of a response.
func TestEachByteOfResponses(t *testing.T) {
	for _, right := range []string{
		"HTTP/1.1 200 OK\r\ncontent-length: 2\r\nx-muster-index: 10\r\n\r\nxy",
		"HTTP/1.1 409 Conflict\r\ncontent-length: 0\r\nx-muster-index: 0\r\n\r\n",
		"HTTP/1.1 404 Not Found\r\ncontent-length: 4\r\nx-muster-index: 18446744073709551615\r\n\r\n\r\n\r\n",
	} {
		eachByte(right, func(text string) {
			want, wantErr := modelRead([]byte(text))
			reads(t, text, want, wantErr)
		})
	}
}

// P19.2, P19.3: what is handed in stays as it is, spare room included, and isn't kept; an answer is new memory, spare room too.
func TestMemoryOfResponses(t *testing.T) {
	r := api.Response{Status: 200, Index: 5, Body: "body"}
	one, _ := Encode(r)
	two, _ := Encode(r)
	room := one[:cap(one)]
	for i := range room {
		room[i] = '#'
	}
	if want, _ := modelEncode(r); string(two) != want {
		t.Errorf("%q", two)
	}
	handed := append(bytes.Clone(two), "spare"...)
	got, err := Read(handed[:len(two)])
	if err != 0 || string(handed) != string(two)+"spare" {
		t.Errorf("%q, %d", handed, err)
	}
	for i := range handed {
		handed[i] = '#'
	}
	if got != r {
		t.Error(got)
	}
}
