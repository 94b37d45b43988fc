package http

import (
	"fmt"
	"strings"
	"testing"

	"muster/api"
)

// decodes: Decode must say this of the text, and so must the plain reading.
func decodes(t *testing.T, text string, want api.Request, wantErr api.Errno) {
	t.Helper()
	r, err := Decode([]byte(text))
	if err != wantErr || !sameRequest(r, want) {
		t.Errorf("%.300q: %+v, %d, not %+v, %d", text, r, err, want, wantErr)
	}
	if r, err := modelDecode([]byte(text)); err != wantErr || !sameRequest(r, want) {
		t.Errorf("%.300q: the plain reading says %+v, %d, not %+v, %d", text, r, err, want, wantErr)
	}
}

// refused: each text must be answered with this error and a zero request.
func refused(t *testing.T, wantErr api.Errno, texts ...string) {
	t.Helper()
	for _, text := range texts {
		decodes(t, text, api.Request{}, wantErr)
	}
}

// P19.1: the numbers of the errors.
func TestNumbers(t *testing.T) {
	got := []api.Errno{api.ErrHttpLong, api.ErrLine, api.ErrMethod, api.ErrTarget, api.ErrHeader, api.ErrBody, api.ErrStatusNo}
	for i, err := range got {
		if err != api.Errno(190+i) {
			t.Error(i, err)
		}
	}
}

// P19.1: the chapter's examples.
func TestChapterExamples(t *testing.T) {
	decodes(t, "GET /v1/health/service/web?passing&index=5 HTTP/1.1\r\nHost: x\r\n\r\n", api.Request{
		Method: "GET",
		Path:   []string{"v1", "health", "service", "web"},
		Params: []api.Param{{Name: "passing"}, {Name: "index", Value: "5"}},
	}, 0)
	decodes(t, "GET /a%2fb HTTP/1.1\r\n\r\n", api.Request{Method: "GET", Path: []string{"a/b"}}, 0)
	refused(t, 192, "POST / HTTP/1.1\r\n\r\n", "POST / HTTP/1.1\r\n")
}

// P19.1: at most 65536 bytes, whatever they are.
func TestLongMessages(t *testing.T) {
	head := "PUT / HTTP/1.1\r\ncontent-length: 65497\r\n\r\n"
	body := strings.Repeat("x", 65497)
	if len(head)+len(body) != 65538 {
		t.Fatal(len(head) + len(body))
	}
	head = strings.Replace(head, "65497", "65495", 1)
	decodes(t, head+body[2:], api.Request{Method: "PUT", Path: []string{""}, Body: body[2:]}, 0)
	refused(t, 195, head+body[3:])
	refused(t, 190, head+body[1:], head+body, strings.Repeat("\r\n", 32769), strings.Repeat("\x00", 65537), strings.Repeat("x", 1<<20))
	refused(t, 191, strings.Repeat("x", 65536), strings.Repeat("\r\n", 32768), strings.Repeat(" ", 65536))
	path := "GET /" + strings.Repeat("a", 65518) + " HTTP/1.1\r\n\r\n"
	decodes(t, path, api.Request{Method: "GET", Path: []string{strings.Repeat("a", 65518)}}, 0)
	refused(t, 193, "GET "+strings.Repeat("/", 65519)+" HTTP/1.1\r\n\r\n", "GET /?"+strings.Repeat("a&", 32758)+" HTTP/1.1\r\n\r\n")
	refused(t, 194, "GET / HTTP/1.1\r\n"+strings.Repeat("a:\r\n", 16380), "GET / HTTP/1.1\r\n"+strings.Repeat("a", 65520))
}

// P19.1: the first line is three words with one blank between two of them, the last of them HTTP/1.1.
func TestFirstLine(t *testing.T) {
	for _, line := range []string{
		"", " ", "  ", "GET", "GET /", "GET / ", "GET  HTTP/1.1", "GET  / HTTP/1.1", "GET /  HTTP/1.1", " GET / HTTP/1.1", "GET / HTTP/1.1 ",
		" / HTTP/1.1", "/ HTTP/1.1", "HTTP/1.1", "GET HTTP/1.1", "GET / / HTTP/1.1", "GET / HTTP/1.1 x", "GET\t/ HTTP/1.1", "GET /\tHTTP/1.1",
		"GET / HTTP/1.0", "GET / HTTP/1.1.", "GET / HTTP/1.", "GET / http/1.1", "GET / XHTTP/1.1", "GET / HTTP/1.1\r", "GET / HTTP/1.1\n", "GET / HTTP/1.1\x00",
		"POST / HTTP/1.0", "POST  HTTP/1.1", "\r", "GET / HTTP/1.1\nHost: x",
	} {
		refused(t, 191, line, line+"\r\n", line+"\r\n\r\n", line+"\r\na: b\r\n\r\nbody")
	}
	refused(t, 191, "GET / HTTP/1.1", "GET / HTTP/1.1\r", "GET / HTTP/1.1\n", "GET / HTTP/1.1\n\r", "GET / HTTP/1.1\n\n", "GET / HTTP/1.1\r\r\n", "POST / HTTP/1.1", "\r\nGET / HTTP/1.1\r\n\r\n")
	if r, err := Decode(nil); err != 191 || !sameRequest(r, api.Request{}) {
		t.Error(r, err)
	}
}

// P19.1: GET and PUT, written so, and no other method, whatever stands behind the first word.
func TestMethods(t *testing.T) {
	for _, method := range []string{"POST", "HEAD", "DELETE", "get", "put", "Get", "GE", "GETS", "PUTT", "XGET", "P", "\x00", "GET\r", "GET\n", "\xff", "G/T", "GET\t"} {
		refused(t, 192, method+" / HTTP/1.1\r\n\r\n", method+" / HTTP/1.1\r\n", method+" x HTTP/1.1\r\nx", method+" /% HTTP/1.1\r\n\r\nx")
	}
	for _, method := range []string{"GET", "PUT"} {
		decodes(t, method+" / HTTP/1.1\r\n\r\n", api.Request{Method: method, Path: []string{""}}, 0)
		decodes(t, method+" / HTTP/1.1\r\ncontent-length: 1\r\n\r\nx", api.Request{Method: method, Path: []string{""}, Body: "x"}, 0)
	}
}

// P19.1: the pieces of a path: one or more, at most 16, each behind a slash, empty ones too.
func TestPaths(t *testing.T) {
	for path, want := range map[string][]string{
		"/":                                {""},
		"//":                               {"", ""},
		"/a":                               {"a"},
		"/a/":                              {"a", ""},
		"//a":                              {"", "a"},
		"/a/b":                             {"a", "b"},
		"/A/b":                             {"A", "b"},
		"/a%2fb":                           {"a/b"},
		"/a%2Fb/%2f":                       {"a/b", "/"},
		"/%3f%26%3d%25%20%":                nil,
		"/%3f%26%3d%25%20%2541":            {"?&=% %41"},
		"/%00%ff%7F":                       {"\x00\xff\x7f"},
		"/%c3%A9":                          {"é"},
		"/&=+#;:@":                         {"&=+#;:@"},
		"/!~":                              {"!~"},
		"/../.":                            {"..", "."},
		"/http:///x":                       {"http:", "", "", "x"},
		strings.Repeat("/", 16):            make([]string, 16),
		strings.Repeat("/", 17):            nil,
		strings.Repeat("/a", 17):           nil,
		strings.Repeat("/", 16) + "%2f%2F": append(make([]string, 15), "//"),
		"a":                                nil,
		"a/b":                              nil,
		"*":                                nil,
		"http://x/":                        nil,
		"%2f":                              nil,
		"?a":                               nil,
		"?/":                               nil,
		"/%":                               nil,
		"/%2":                              nil,
		"/%/2f":                            nil,
		"/%2/f":                            nil,
		"/%2?f":                            nil,
		"/%%2f":                            nil,
		"/%2g":                             nil,
		"/%g2":                             nil,
		"/%+2":                             nil,
		"/%-2":                             nil,
		"/%0x":                             nil,
		"/%x0":                             nil,
		"/%_1":                             nil,
		"/%1_":                             nil,
		"/%:0":                             nil,
		"/%@0":                             nil,
		"/%`0":                             nil,
		"/%G0":                             nil,
		"/\x7f":                            nil,
		"/\x80":                            nil,
		"/\xff":                            nil,
		"/é":                               nil,
		"/a\tb":                            nil,
		"/a\rb":                            nil,
		"/a\nb":                            nil,
		"/\x00":                            nil,
		"/\x1f":                            nil,
		"/a?b\x7f":                         nil,
		"/a?b=\x1f":                        nil,
		"/a%2":                             nil,
		"/" + "%e" + "/%e29":               nil,
	} {
		text := "GET " + path + " HTTP/1.1\r\n\r\n"
		if want == nil {
			refused(t, 193, text)
			continue
		}
		decodes(t, text, api.Request{Method: "GET", Path: want}, 0)
	}
}

// P19.1: the parameters: 1 to 16 behind the first question mark.
func TestParams(t *testing.T) {
	for asked, want := range map[string][]api.Param{
		"?a":                                 {{Name: "a"}},
		"?a=":                                {{Name: "a"}},
		"?a=b":                               {{Name: "a", Value: "b"}},
		"?a=b=c":                             {{Name: "a", Value: "b=c"}},
		"?a==":                               {{Name: "a", Value: "="}},
		"?a&b=c":                             {{Name: "a"}, {Name: "b", Value: "c"}},
		"?b=c&a&b=d":                         {{Name: "b", Value: "c"}, {Name: "a"}, {Name: "b", Value: "d"}},
		"?a&a":                               {{Name: "a"}, {Name: "a"}},
		"??":                                 {{Name: "?"}},
		"?a?b=?c/d":                          {{Name: "a?b", Value: "?c/d"}},
		"?/":                                 {{Name: "/"}},
		"?%26%3D=%3d%26":                     {{Name: "&=", Value: "=&"}},
		"?%00=%fF":                           {{Name: "\x00", Value: "\xff"}},
		"?%3d":                               {{Name: "="}},
		"?+=+":                               {{Name: "+", Value: "+"}},
		"?a;b":                               {{Name: "a;b"}},
		"?" + strings.Repeat("a&", 15) + "b": append(slicesOf(15, api.Param{Name: "a"}), api.Param{Name: "b"}),
		"?" + strings.Repeat("a&", 16) + "b": nil,
		"?":                                  nil,
		"?=":                                 nil,
		"?=a":                                nil,
		"?==":                                nil,
		"?&":                                 nil,
		"?a&":                                nil,
		"?&a":                                nil,
		"?a&&b":                              nil,
		"?a&=b":                              nil,
		"?%":                                 nil,
		"?%4":                                nil,
		"?a=%":                               nil,
		"?a=%4":                              nil,
		"?%=41":                              nil,
		"?%4=1":                              nil,
		"?a=%4&1":                            nil,
		"?a=%4=1":                            nil,
		"?a=%4g":                             nil,
		"?a=b%zz":                            nil,
		"?a=b&c=%":                           nil,
		"?a=é":                               nil,
	} {
		text := "PUT /p" + asked + " HTTP/1.1\r\n\r\n"
		if want == nil {
			refused(t, 193, text)
			continue
		}
		decodes(t, text, api.Request{Method: "PUT", Path: []string{"p"}, Params: want}, 0)
	}
}

func slicesOf[T any](n int, x T) []T {
	var list []T
	for range n {
		list = append(list, x)
	}
	return list
}

// P19.1: each byte may be written with % and two digits, of letters of either size.
func TestEscapes(t *testing.T) {
	for c := range 256 {
		for _, form := range []string{"%%%02x", "%%%02X"} {
			escaped := fmt.Sprintf(form, c)
			plain := string([]byte{byte(c)})
			decodes(t, "GET /x"+escaped+"/"+escaped+"?"+escaped+"="+escaped+" HTTP/1.1\r\n\r\n", api.Request{
				Method: "GET",
				Path:   []string{"x" + plain, plain},
				Params: []api.Param{{Name: plain, Value: plain}},
			}, 0)
		}
	}
}

// P19.1: at most 32 header lines of a name, a colon and a value; an empty line ends them.
func TestHeaders(t *testing.T) {
	first := "GET / HTTP/1.1\r\n"
	plain := api.Request{Method: "GET", Path: []string{""}}
	for _, lines := range []string{
		"", "a:\r\n", "a: \r\n", "a:b\r\n", "a:   b  \r\n", "a: b: c\r\n", "a::\r\n", "A-b-0: x\r\n", "-:\r\n", "0:1\r\n", "Z:~ !\r\n", "a:1\r\na:2\r\n",
		"content-lengt: x\r\n", "content-lengths: x\r\n", "x-content-length: 7\r\n", "contentlength: 7\r\n", "transfer-encoding: chunked\r\n",
		"content-length: 0\r\n", "a: content-length: 7\r\n",
	} {
		decodes(t, first+lines+"\r\n", plain, 0)
		refused(t, 195, first+lines+"\r\nx")
		refused(t, 194, first+lines, first+lines+"\r", first+lines+"\n", first+lines+"x\r\n\r\n")
	}
	refused(t, 194,
		first+":\r\n\r\n", first+": b\r\n\r\n", first+"a\r\n\r\n", first+"a b\r\n\r\n", first+"a :b\r\n\r\n", first+" a:b\r\n\r\n", first+" \r\n\r\n",
		first+"a_b: c\r\n\r\n", first+"a.b: c\r\n\r\n", first+"é: c\r\n\r\n", first+"a: é\r\n\r\n", first+"a:\tb\r\n\r\n", first+"a: b\x7f\r\n\r\n",
		first+"a: b\r\r\n\r\n", first+"a: b\n\r\n", first+"a: b\nc: d\r\n\r\n", first+"a: \x00\r\n\r\n", first+"a: b\r\n c\r\n\r\n",
		first+"a: b\n\n", first+"\n\n", first+"\n\r\n", first+"\r\r\n", first+"a: b", first+"a: b\r\n\r", first+"a: b\r\n\n\r\n",
	)
}

// P19.1: 32 header lines may stand there; the 33rd is an error, right or not.
func TestManyHeaders(t *testing.T) {
	first := "PUT / HTTP/1.1\r\n"
	for n := range 40 {
		text := first + strings.Repeat("a: b\r\n", n) + "Content-Length: 2\r\n\r\nxy"
		if n < 32 {
			decodes(t, text, api.Request{Method: "PUT", Path: []string{""}, Body: "xy"}, 0)
		} else {
			refused(t, 194, text)
		}
	}
	refused(t, 194, first+strings.Repeat("a:\r\n", 33)+"\r\n", first+strings.Repeat("a:\r\n", 33), first+strings.Repeat("a:\r\n", 32), first+strings.Repeat("a:\r\n", 32)+"a")
	refused(t, 195, first+strings.Repeat("a:\r\n", 32)+"\r\n\r\n")
}

// P19.1: the header content-length, of letters of any size, says the body's length, once at most.
func TestLengths(t *testing.T) {
	first := "PUT / HTTP/1.1\r\n"
	for _, name := range []string{"content-length", "Content-Length", "CONTENT-LENGTH", "cOnTeNt-lEnGtH"} {
		for _, value := range []string{":3", ": 3", ":    3", ": 3   ", ":3 "} {
			decodes(t, first+"a: 1\r\n"+name+value+"\r\nb: 2\r\n\r\nxyz", api.Request{Method: "PUT", Path: []string{""}, Body: "xyz"}, 0)
			refused(t, 195, first+name+value+"\r\n\r\nxy", first+name+value+"\r\n\r\nwxyz", first+name+value+"\r\n\r\n")
			refused(t, 194, first+name+value+"\r\n"+name+value+"\r\n\r\nxyz", first+name+value+"\r\ncontent-length: 3\r\n\r\nxyz", first+name+value+"\r\na:\r\nCONTENT-length: x\r\n\r\nxyz")
		}
		for _, value := range []string{
			"", " ", " 03", " 00", " +3", " -3", " -0", " 3.", " 3 3", " 3,3", " x3", " 3x", " 0x3", " 3_0", " ３", " 65537", " 99999", " 100000",
			" 18446744073709551619", " 4294967299", " 999999999999999999999999999999", " 1e1", "3:", ": 3", " \"3\"",
		} {
			refused(t, 194, first+name+":"+value+"\r\n\r\nxyz", first+name+":"+value+"\r\n\r\n")
		}
	}
	refused(t, 195, first+"content-length: 65536\r\n\r\n", first+"content-length: 65535\r\n\r\nx", first+"content-length: 10000\r\n\r\nx", first+"\r\nx", first+"a: 3\r\n\r\nxyz")
	refused(t, 194, first+"content-length: 0\r\ncontent-length: 0\r\n\r\n")
}

// P19.1: a body is any bytes, line's ends and empty lines among them.
func TestBodies(t *testing.T) {
	for _, body := range []string{"", "\r\n", "\r\n\r\n", "\x00\xff", "a: b\r\n\r\n", "é", "GET / HTTP/1.1\r\n\r\n", strings.Repeat("\r\n", 5000), "\n"} {
		text := fmt.Sprintf("GET / HTTP/1.1\r\ncontent-length: %d\r\n\r\n%s", len(body), body)
		decodes(t, text, api.Request{Method: "GET", Path: []string{""}, Body: body}, 0)
		refused(t, 195, text+"\n")
	}
}

// P19.1: the first error of those that apply.
func TestOrderOfErrors(t *testing.T) {
	long := strings.Repeat("x", 65537)
	refused(t, 190, "POST x HTTP/1.0\r\nx\r\n\r\n"+long, "POST x HTTP/1.1\r\nx\r\n\r\n"+long, "GET x HTTP/1.1\r\nx\r\n\r\n"+long, "GET / HTTP/1.1\r\nx\r\n\r\n"+long, "GET / HTTP/1.1\r\n\r\n"+long)
	refused(t, 191, "POST x HTTP/1.0\r\nx\r\n\r\nx", "POST x HTTP/1.1", "POST x  HTTP/1.1\r\n")
	refused(t, 192, "POST x HTTP/1.1\r\nx\r\n\r\nx", "POST x HTTP/1.1\r\n", "POST / HTTP/1.1\r\n\r\nx")
	refused(t, 193, "GET x HTTP/1.1\r\nx\r\n\r\nx", "GET x HTTP/1.1\r\n", "PUT /? HTTP/1.1\r\n\r\nx")
	refused(t, 194, "GET / HTTP/1.1\r\nx\r\n\r\nx", "GET / HTTP/1.1\r\n", "GET / HTTP/1.1\r\ncontent-length: 2\r\nx\r\n\r\nx")
	refused(t, 195, "GET / HTTP/1.1\r\ncontent-length: 2\r\n\r\nx", "GET / HTTP/1.1\r\ncontent-length: 2\r\nx: y\r\n\r\nxyz")
}

// P19.4: the value of the first parameter of that name.
func TestValue(t *testing.T) {
	r := api.Request{Path: []string{"path"}, Body: "body", Params: []api.Param{
		{Name: "a"}, {Name: "b", Value: "1"}, {Name: "a", Value: "2"}, {Name: "B", Value: "3"}, {Name: "b", Value: "4"}, {Value: "5"}, {Name: "c\x00", Value: "\xff"},
	}}
	for name, want := range map[string]string{"a": "", "b": "1", "B": "3", "": "5", "c\x00": "\xff"} {
		if value, ok := Value(r, name); value != want || !ok {
			t.Errorf("%q: %q, %v", name, value, ok)
		}
	}
	for _, name := range []string{"A", "c", "c\x00\x00", "ab", "path", "body", "1", "GET"} {
		if value, ok := Value(r, name); value != "" || ok {
			t.Errorf("%q: %q, %v", name, value, ok)
		}
	}
	for _, name := range []string{"", "a"} {
		if value, ok := Value(api.Request{}, name); value != "" || ok {
			t.Errorf("%q: %q, %v", name, value, ok)
		}
	}
}

// P19.4: of what Decode has read, each name has the value of its first parameter.
func TestValueOfDecoded(t *testing.T) {
	r, err := Decode([]byte("GET /?a=1&%61=2&b&b=3&=%3d HTTP/1.1\r\n\r\n"))
	if err != 193 {
		t.Fatal(r, err)
	}
	r, err = Decode([]byte("GET /?%61=1&a=2&b&b=3&%3d==%3d HTTP/1.1\r\n\r\n"))
	if err != 0 {
		t.Fatal(r, err)
	}
	for name, want := range map[string]string{"a": "1", "b": "", "=": "=="} {
		if value, ok := Value(r, name); value != want || !ok {
			t.Errorf("%q: %q, %v", name, value, ok)
		}
	}
}

// P19.1: what is handed in stays as it is, spare room included, and isn't kept; an answer is new memory.
func TestMemoryOfDecode(t *testing.T) {
	text := "PUT /a/b?c=d&e HTTP/1.1\r\ncontent-length: 2\r\n\r\nxy"
	room := append([]byte(text), "spare"...)
	want, err := Decode(room[:len(text)])
	if err != 0 || string(room) != text+"spare" {
		t.Fatalf("%q, %d", room, err)
	}
	got, _ := Decode(room[:len(text)])
	for i := range room {
		room[i] = '#'
	}
	if !sameRequest(got, want) {
		t.Error(got, want)
	}
	got.Path[0], got.Params[0].Name = "#", "#"
	got.Path, got.Params = append(got.Path, "#"), append(got.Params, api.Param{})
	if want.Path[0] != "a" || want.Params[0].Name != "c" {
		t.Error(want)
	}
	value, _ := Value(want, "c")
	want.Params[0].Value = "#"
	if value != "d" || want.Params[1].Name != "e" {
		t.Error(value, want)
	}
}
