package http

import (
	"fmt"
	"math/rand"
	"strings"
	"testing"
)

// asModel: Decode must say of a text what the plain reading says.
func asModel(t *testing.T, text string) {
	t.Helper()
	want, wantErr := modelDecode([]byte(text))
	if r, err := Decode([]byte(text)); err != wantErr || !sameRequest(r, want) {
		t.Fatalf("%q: %+v, %d, not %+v, %d", text, r, err, want, wantErr)
	}
}

// eachByte: the text with each byte in place of each, with each put ahead of each, and without each.
func eachByte(text string, try func(string)) {
	for at := range len(text) + 1 {
		for c := range 256 {
			between := string([]byte{byte(c)})
			try(text[:at] + between + text[at:])
			if at < len(text) {
				try(text[:at] + between + text[at+1:])
			}
		}
		if at < len(text) {
			try(text[:at] + text[at+1:])
		}
	}
}

// spoil: the bytes with one or two of them changed, taken out, doubled or swapped.
func spoil(random *rand.Rand, b []byte) []byte {
	for range 1 + random.Intn(2) {
		if len(b) == 0 {
			return b
		}
		at, other := random.Intn(len(b)), random.Intn(len(b))
		text := string(b)
		switch random.Intn(5) {
		case 0:
			b = []byte(text[:at] + text[at+1:])
		case 1:
			b = []byte(text[:at] + text[at:at+1] + text[at:])
		case 2:
			b = []byte(text[:at] + string(" \r\n/%?&=:0x"[random.Intn(11)]) + text[at+1:])
		case 3:
			b[at], b[other] = b[other], b[at]
		case 4:
			b = []byte(text[:at])
		}
	}
	return b
}

// grow: all texts of at most so many of these pieces.
func grow(text string, pieces []string, more int, try func(string)) {
	try(text)
	if more == 0 {
		return
	}
	for _, piece := range pieces {
		grow(text+piece, pieces, more-1, try)
	}
}

// P19.1: all short targets, first lines, header lines and bodies of a few pieces.
func TestShortMessages(t *testing.T) {
	for _, c := range []struct {
		ahead, behind string
		pieces        string
		more          int
	}{
		{"GET ", " HTTP/1.1\r\n\r\n", "/ ? & = % 2f a", 6},
		{"GET /", " HTTP/1.1\r\n\r\n", "? & = % 4 1 b", 6},
		{"GET /?a", " HTTP/1.1\r\n\r\n", "? & = / %3d b", 6},
		{"", "\r\n\r\n", "GET PUT _ / HTTP/1.1 x", 6},
		{"PUT / HTTP/1.1\r\n", "\r\n\r\nab", "content-length content-Length : _ 2 0 \r\n", 6},
		{"PUT / HTTP/1.1", "", "\r \n a :", 8},
		{"PUT / HTTP/1.1\r\ncontent-length:", "\r\n\r\n0123456789", "_ 1 0 -", 7},
		{"PUT / HTTP/1.1\r\ncontent-length: 2\r\n", "", "\r\n \r \n x:y", 7},
	} {
		pieces := strings.Split(c.pieces, " ")
		for i := range pieces {
			pieces[i] = strings.ReplaceAll(pieces[i], "_", " ")
		}
		grow("", pieces, c.more, func(text string) { asModel(t, c.ahead+text+c.behind) })
	}
}

// P19.1: each byte at each place of a request.
func TestEachByteOfRequests(t *testing.T) {
	for _, text := range []string{
		"GET / HTTP/1.1\r\n\r\n",
		"PUT /a%2Fb/?c&d=%e9 HTTP/1.1\r\nHost: x y\r\nContent-Length: 3 \r\n\r\nx\r\n",
	} {
		eachByte(text, func(text string) { asModel(t, text) })
	}
}

func pick(random *rand.Rand, pieces ...string) string { return pieces[random.Intn(len(pieces))] }

// randomTarget is right but that it may have too many pieces or parameters.
func randomTarget(random *rand.Rand) string {
	var target strings.Builder
	for range 1 + random.Intn(3)*random.Intn(9) {
		target.WriteString("/" + pick(random, "", "a", "v1", "%2f", "x%00", "&=", "Service"))
	}
	parted := "?"
	for range random.Intn(3) * random.Intn(9) {
		target.WriteString(parted + pick(random, "a", "index", "%3D", "x/?") + pick(random, "", "=", "=5", "==", "=%26", "=a/b"))
		parted = "&"
	}
	return target.String()
}

// randomHeaders are right but that they may be too many, may say a length twice, or a wrong one.
func randomHeaders(random *rand.Rand, length int) string {
	var headers strings.Builder
	for range random.Intn(4) * random.Intn(12) {
		headers.WriteString(pick(random, "Host", "a", "X-0", "content-lengt") + ":" + pick(random, "", " ", "  x", "y z ", "~:") + "\r\n")
	}
	if random.Intn(8) > 0 {
		headers.WriteString(pick(random, "content-length", "Content-Length", "CONTENT-LENGTH") + ":" + pick(random, "", " ", "   ") + fmt.Sprint(length) + pick(random, "", "  ") + "\r\n")
	}
	for range random.Intn(4) {
		headers.WriteString(pick(random, "a: b", "a:", "b: content-length", "c: 1", "d-d: -", "e:", "f: %", "Content-Length: 1") + "\r\n")
	}
	return headers.String()
}

// P19.1: random requests, right ones and spoilt ones.
func TestRandomRequests(t *testing.T) {
	random := rand.New(rand.NewSource(191))
	rightOnes := 0
	for range 30000 {
		body := make([]byte, random.Intn(6)*random.Intn(4))
		for i := range body {
			body[i] = "\r\n x\xff"[random.Intn(5)]
		}
		text := pick(random, "GET", "PUT") + " " + randomTarget(random) + " HTTP/1.1\r\n" + randomHeaders(random, len(body)) + "\r\n" + string(body)
		asModel(t, text)
		if _, err := Decode([]byte(text)); err == 0 {
			rightOnes++
		}
		asModel(t, string(spoil(random, []byte(text))))
	}
	if rightOnes < 5000 {
		t.Error("only", rightOnes, "of 30000 requests were right")
	}
}
