package dns

import (
	"bytes"
	"reflect"
	"slices"
	"strings"
	"testing"

	"muster/api"
)

// labels: the labels of a name in dots; none for the root.
func labels(name string) []string {
	if name == "" {
		return nil
	}
	return strings.Split(name, ".")
}

func queryOf(name string) api.DnsQuery {
	return api.DnsQuery{Id: 7, Wish: true, Labels: labels(name), Type: api.TypeA, Class: api.ClassIN}
}

// wire: numbers and texts as bytes.
func wire(parts ...any) []byte {
	var b []byte
	for _, part := range parts {
		switch part := part.(type) {
		case int:
			b = append(b, byte(part))
		case string:
			b = append(b, part...)
		case []byte:
			b = append(b, part...)
		}
	}
	return b
}

// changed: the bytes with one of them changed.
func changed(b []byte, at int, to byte) []byte {
	b = bytes.Clone(b)
	b[at] = to
	return b
}

var (
	queryA = []byte{0, 7, 1, 0, 0, 1, 0, 0, 0, 0, 0, 0, 1, 97, 0, 0, 1, 0, 1}
	replyA = []byte{0, 7, 133, 0, 0, 1, 0, 1, 0, 0, 0, 0, 1, 97, 0, 0, 1, 0, 1, 192, 12, 0, 1, 0, 1, 0, 0, 0, 0, 0, 4, 10, 0, 0, 1}
	askedA = replyA[:19]
	addrA  = []byte{0, 1, 0, 1, 0, 0, 0, 0, 0, 4, 10, 0, 0, 1}
)

// long has four labels and 255 bytes on the wire, as many as may be.
func long() []string {
	l := strings.Repeat("x", 63)
	return []string{l, l, l, l[:61]}
}

// P20.1 to P20.4: the chapter's examples.
func TestExamples(t *testing.T) {
	q := queryOf("a")
	if b, err := EncodeQuery(q); err != 0 || !bytes.Equal(b, queryA) {
		t.Error(b, err)
	}
	if back, err := DecodeQuery(queryA); err != 0 || !reflect.DeepEqual(back, q) {
		t.Error(back, err)
	}
	r := api.DnsReply{Query: q, Records: []api.DnsRecord{{Type: api.TypeA, Addr: [4]byte{10, 0, 0, 1}}}}
	if b, err := EncodeReply(r, 35); err != 0 || !bytes.Equal(b, replyA) {
		t.Error(b, err)
	}
	if back, err := DecodeReply(replyA); err != 0 || !reflect.DeepEqual(back, r) {
		t.Error(back, err)
	}
}

// P20.1: each bit of the flags, and each of the four numbers, is where it should be, and says what it should say.
func TestHeadsOfQueries(t *testing.T) {
	base := api.DnsQuery{Id: 7, Labels: []string{"a"}, Type: 1, Class: 1}
	for bit := range 16 {
		b := changed(changed(queryA, 2, 0), 3, 0)
		b[2+bit/8] |= 128 >> (bit % 8)
		want, wantErr := base, api.Errno(0)
		switch bit {
		case 0, 6:
			want, wantErr = api.DnsQuery{}, 202
		case 1, 2, 3, 4:
			want.Opcode = 16 >> bit
		case 7:
			want.Wish = true
		}
		if q, err := DecodeQuery(b); err != wantErr || !reflect.DeepEqual(q, want) {
			t.Error("bit", bit, q, err)
		}
	}
	for at := 4; at < 12; at++ {
		wantErr := api.Errno(202)
		if at >= 10 {
			wantErr = 0
		}
		if _, err := DecodeQuery(changed(queryA, at, 3)); err != wantErr {
			t.Error("byte", at, err)
		}
	}
	if _, err := DecodeQuery(changed(queryA, 5, 0)); err != 202 {
		t.Error("no question", err)
	}
}

// P20.1: what a question comes to.
func TestQuestions(t *testing.T) {
	ahead := []byte{255, 254, 120, 143, 0, 1, 0, 0, 0, 0, 255, 255}
	longWire := wire(63, long()[0], 63, long()[1], 63, long()[2], 61, long()[3], 0)
	for _, c := range []struct {
		question []byte
		labels   []string
		err      api.Errno
	}{
		{wire(0, 0, 255, 1, 2), nil, 0},
		{wire(0, 0, 255, 1, 2, "behind", 192), nil, 0},
		{wire(1, ".", 2, 0, 255, 0, 0, 255, 1, 2), []string{".", "\x00\xff"}, 0},
		{wire(longWire, 0, 255, 1, 2), long(), 0},
		{wire(63, long()[0], 63, long()[1], 63, long()[2], 62), nil, 201},
		{wire(63, long()[0], 63, long()[1], 63, long()[2], 61, long()[3], 1), nil, 201},
		{wire(strings.Repeat("\x01a", 127), 0, 0, 255, 1, 2), labels(strings.Repeat("a.", 126) + "a"), 0},
		{wire(strings.Repeat("\x01a", 127)), nil, 200},
		{wire(strings.Repeat("\x01a", 127), 1), nil, 201},
		{wire(64), nil, 201},
		{wire(128), nil, 201},
		{wire(191), nil, 201},
		{wire(192, 12), nil, 201},
		{wire(255), nil, 201},
		{wire(1, "a", 192, 0), nil, 201},
		{wire(63), nil, 200},
		{wire(63, strings.Repeat("a", 62)), nil, 200},
		{wire(), nil, 200},
		{wire(1, "a"), nil, 200},
		{wire(0, 0, 255, 1), nil, 200},
		{wire(0), nil, 200},
	} {
		q, err := DecodeQuery(wire(ahead, c.question))
		want := api.DnsQuery{Id: 65534, Opcode: 15, Labels: c.labels, Type: 255, Class: 258}
		if c.err != 0 {
			want = api.DnsQuery{}
		}
		if err != c.err || !sameQuery(q, want) {
			t.Error(c.question, q, err)
		}
	}
}

// P20.1, P20.4: the errors of the head come ahead of those behind it.
func TestHeadsFirst(t *testing.T) {
	for size := range 12 {
		if q, err := DecodeQuery(bytes.Repeat([]byte{255}, size)); err != 200 || !sameQuery(q, api.DnsQuery{}) {
			t.Error(size, q, err)
		}
		if r, err := DecodeReply(make([]byte, size)); err != 200 || !sameReply(r, api.DnsReply{}) {
			t.Error(size, r, err)
		}
	}
	for _, size := range []int{12, 13} {
		if _, err := DecodeQuery(bytes.Repeat([]byte{255}, size)); err != 202 {
			t.Error(size, err)
		}
		if _, err := DecodeReply(make([]byte, size)); err != 202 {
			t.Error(size, err)
		}
	}
}

// P20.2, P20.3: which labels are a name, and which numbers have four bits.
func TestWrongQueries(t *testing.T) {
	l := strings.Repeat("x", 63)
	for _, c := range []struct {
		opcode int
		labels []string
		err    api.Errno
	}{
		{0, nil, 0},
		{15, []string{}, 0},
		{15, long(), 0},
		{1, []string{l}, 0},
		{-1, nil, 202},
		{16, nil, 202},
		{16, []string{""}, 202},
		{-1 << 63, nil, 202},
		{1<<63 - 1, nil, 202},
		{0, []string{""}, 201},
		{0, []string{"a", ""}, 201},
		{0, []string{"", "a"}, 201},
		{0, []string{l + "x"}, 201},
		{0, []string{"a", strings.Repeat("x", 256)}, 201},
		{0, []string{strings.Repeat("x", 65536)}, 201},
		{0, []string{l, l, l, l[:62]}, 201},
		{0, append(long(), "a"), 201},
		{0, labels(strings.Repeat("a.", 126) + "a"), 0},
		{0, labels(strings.Repeat("a.", 127) + "a"), 201},
	} {
		q := api.DnsQuery{Opcode: c.opcode, Labels: c.labels}
		b, err := EncodeQuery(q)
		if err != c.err || (err != 0) != (len(b) == 0) {
			t.Error(c.opcode, len(c.labels), b, err)
		}
		b, err = EncodeReply(api.DnsReply{Query: q}, 65535)
		if err != c.err || (err != 0) != (len(b) == 0) {
			t.Error(c.opcode, len(c.labels), b, err)
		}
	}
}

// P20.3: the errors, and which one comes first.
func TestWrongReplies(t *testing.T) {
	good := api.DnsRecord{Type: api.TypeSRV, Target: []string{"n"}}
	badTarget := api.DnsRecord{Type: api.TypeSRV, Target: []string{"n", ""}}
	badType := api.DnsRecord{Type: api.TypeANY}
	for _, c := range []struct {
		q       api.DnsQuery
		rcode   int
		records []api.DnsRecord
		limit   int
		err     api.Errno
	}{
		{queryOf("a"), 15, nil, 19, 0},
		{queryOf("a"), 16, nil, 19, 202},
		{queryOf("a"), -1, nil, 19, 202},
		{queryOf("a"), 0, nil, 18, 203},
		{queryOf("a"), 0, nil, 0, 203},
		{queryOf("a"), 0, nil, -1 << 63, 203},
		{queryOf("a"), 0, nil, 65535, 0},
		{queryOf("a"), 0, nil, 65536, 203},
		{queryOf("a"), 0, nil, 1<<63 - 1, 203},
		{queryOf(""), 0, nil, 17, 0},
		{queryOf(""), 0, nil, 16, 203},
		{queryOf("a"), 0, []api.DnsRecord{good, badType}, 19, 202},
		{queryOf("a"), 0, []api.DnsRecord{{Type: 0}}, 512, 202},
		{queryOf("a"), 0, []api.DnsRecord{{Type: 1 + 256}}, 512, 202},
		{queryOf("a"), 0, []api.DnsRecord{good, badTarget}, 19, 201},
		{queryOf("a"), 0, []api.DnsRecord{{Type: api.TypeSRV, Target: append(long(), "a")}}, 512, 201},
		{queryOf("a"), 0, []api.DnsRecord{badTarget, badType}, 0, 202},
		{queryOf("a"), 16, []api.DnsRecord{badTarget}, 0, 202},
		{queryOf("a"), 0, []api.DnsRecord{badTarget}, 0, 201},
		{queryOf("a."), 0, []api.DnsRecord{badType}, 0, 202},
		{queryOf("a."), 0, nil, 0, 201},
		// What a type doesn't use isn't looked at.
		{queryOf("a"), 0, []api.DnsRecord{{Type: api.TypeA, Target: []string{""}, Port: 1}}, 512, 0},
	} {
		b, err := EncodeReply(api.DnsReply{Query: c.q, Rcode: c.rcode, Records: c.records}, c.limit)
		if err != c.err || (err != 0) != (len(b) == 0) {
			t.Error(c, b, err)
		}
	}
}

// P20.3: what a reply is written as, byte by byte.
func TestReplyBytes(t *testing.T) {
	q := api.DnsQuery{Id: 0x1234, Opcode: 10, Labels: labels("b.c"), Type: 0x5678, Class: 0x9abc}
	r := api.DnsReply{Query: q, Rcode: 3, Records: []api.DnsRecord{
		{Type: api.TypeSRV, Ttl: 0x01020304, Port: 0x0506, Target: labels("n.c"), Addr: [4]byte{9, 9, 9, 9}},
		{Type: api.TypeA, Ttl: 0xfffefdfc, Addr: [4]byte{1, 2, 3, 4}, Port: 9, Target: labels("n")},
		{Type: api.TypeSRV},
	}}
	want := wire(0x12, 0x34, 128+10*8+4, 3, 0, 1, 0, 3, 0, 0, 0, 0, 1, "b", 1, "c", 0, 0x56, 0x78, 0x9a, 0xbc,
		192, 12, 0, 33, 0, 1, 1, 2, 3, 4, 0, 11, 0, 1, 0, 1, 5, 6, 1, "n", 1, "c", 0,
		192, 12, 0, 1, 0, 1, 255, 254, 253, 252, 0, 4, 1, 2, 3, 4,
		192, 12, 0, 33, 0, 1, 0, 0, 0, 0, 0, 7, 0, 1, 0, 1, 0, 0, 0)
	if b, err := EncodeReply(r, len(want)); err != 0 || !bytes.Equal(b, want) {
		t.Error(b, err)
	}
	cut := bytes.Clone(want)
	cut[2] |= 2
	r.Cut = true
	if b, err := EncodeReply(r, 65535); err != 0 || !bytes.Equal(b, cut) {
		t.Error(b, err)
	}
	r.Query.Wish = true
	cut[2] |= 1
	if b, err := EncodeReply(r, 65535); err != 0 || !bytes.Equal(b, cut) {
		t.Error(b, err)
	}
}

// P20.3: at each limit, just the first records that fit, though a later one would have room.
func TestLimits(t *testing.T) {
	a, wide := api.DnsRecord{Type: api.TypeA}, api.DnsRecord{Type: api.TypeSRV, Target: long()}
	r := api.DnsReply{Query: queryOf("a"), Records: []api.DnsRecord{a, wide, a, {Type: api.TypeSRV}}}
	ends := []int{19, 35, 35 + 12 + 6 + 255, 35 + 273 + 16, 35 + 273 + 16 + 19}
	for limit := 19; limit < 400; limit++ {
		count := 0
		for count < 4 && ends[count+1] <= limit {
			count++
		}
		b, err := EncodeReply(r, limit)
		if err != 0 || len(b) != ends[count] || int(b[7]) != count || (b[2]&2 != 0) != (count < 4) {
			t.Fatal(limit, count, len(b), b[:12], err)
		}
	}
}

// P20.3, P20.5: many records: as many as have room in the greatest message, all of which are read back.
func TestManyRecords(t *testing.T) {
	r := api.DnsReply{Query: queryOf(""), Records: slices.Repeat([]api.DnsRecord{{Type: api.TypeA, Ttl: 1}}, 70000)}
	for i := range r.Records {
		r.Records[i].Addr = [4]byte{1, byte(i >> 16), byte(i >> 8), byte(i)}
	}
	b, err := EncodeReply(r, 65535)
	if count := (65535 - 17) / 16; err != 0 || len(b) != 17+16*count || int(b[6])<<8+int(b[7]) != count {
		t.Fatal(len(b), err)
	}
	back, err := DecodeReply(b)
	r.Cut, r.Records = true, r.Records[:len(back.Records)]
	if err != 0 || len(back.Records) != 4094 || !reflect.DeepEqual(back, r) {
		t.Error(len(back.Records), err)
	}
}

// P20.4: which heads are a reply's.
func TestHeadsOfReplies(t *testing.T) {
	for bit := range 16 {
		b := changed(replyA, 2, 132)
		b[2+bit/8] ^= 128 >> (bit % 8)
		want := api.DnsReply{Query: queryOf("a"), Records: []api.DnsRecord{{Type: 1, Addr: [4]byte{10, 0, 0, 1}}}}
		want.Query.Wish = false
		wantErr := api.Errno(0)
		switch bit {
		case 0, 5, 8, 9, 10, 11:
			want, wantErr = api.DnsReply{}, 202
		case 1, 2, 3, 4:
			want.Query.Opcode = 16 >> bit
		case 6:
			want.Cut = true
		case 7:
			want.Query.Wish = true
		default:
			want.Rcode = 128 >> (bit % 8)
		}
		if r, err := DecodeReply(b); err != wantErr || !sameReply(r, want) {
			t.Error("bit", bit, r, err)
		}
	}
	for at, wantErr := range map[int]api.Errno{4: 202, 5: 202, 6: 200, 7: 200, 8: 202, 9: 202, 10: 202, 11: 202} {
		if r, err := DecodeReply(changed(replyA, at, 9)); err != wantErr || !sameReply(r, api.DnsReply{}) {
			t.Error("byte", at, r, err)
		}
	}
	if _, err := DecodeReply(changed(replyA, 7, 0)); err != 202 {
		t.Error("bytes are left", err)
	}
}

// P20.4: names of answers, behind the question a.b at place 12, whose b is at 14 and whose end is at 16.
func TestPointedNames(t *testing.T) {
	asked := wire(0, 7, 133, 0, 0, 1, 0, 2, 0, 0, 0, 0, 1, "a", 1, "b", 0, 0, 1, 0, 1)
	const first = 21
	for _, c := range []struct {
		first, second []byte
		err           api.Errno
	}{
		{wire(192, 12), wire(192, 12), 0},
		{wire(192, 12), wire(192, first), 0},
		{wire(192, 12), wire(1, "a", 192, 14), 0},
		{wire(192, 12), wire(1, "a", 1, "b", 0), 0},
		{wire(192, 12), wire(1, "a", 1, "b", 192, 16), 0},
		{wire(1, "a", 1, "b", 192, 16), wire(192, first), 0},
		{wire(1, "a", 192, 14), wire(192, first), 0},
		{wire(192, 14), wire(192, 12), 202},
		{wire(192, 16), wire(192, 12), 202},
		{wire(0), wire(192, 12), 202},
		{wire(1, "A", 192, 14), wire(192, 12), 202},
		{wire(1, "a", 192, 12), wire(192, 12), 202},
		{wire(192, 12), wire(192, 13), 201},
		{wire(192, first), wire(192, 12), 201},
		{wire(192, first+1), wire(192, 12), 201},
		{wire(1, "a", 192, first), wire(192, 12), 201},
		{wire(1, "a", 192, first+2), wire(192, 12), 201},
		{wire(193, 12), wire(192, 12), 201},
		{wire(255, 255), wire(192, 12), 201},
		{wire(64), wire(192, 12), 201},
		{wire(191, 12), wire(192, 12), 201},
		{wire(1, "a", 64), wire(192, 12), 201},
		// The head is a part of the message, too: there is a 0 at its beginning.
		{wire(1, "a", 1, "b", 192, 0), wire(192, 12), 0},
		{wire(1, "a", 1, "b", 192, 4), wire(192, 12), 0},
	} {
		b := wire(asked, c.first, addrA, c.second, addrA)
		if r, err := DecodeReply(b); err != c.err || (err == 0) != (len(r.Records) == 2) {
			t.Error(c, r, err)
		}
	}
}

// P20.4: behind a pointer, the next one must point ahead of where the part begins that was pointed at. The question's type and class, at 15 and 17, are pointers here.
func TestPointersBehindPointers(t *testing.T) {
	for _, c := range []struct {
		toType, toClass, to int
		err                 api.Errno
	}{
		{14, 12, 12, 0},
		{14, 12, 17, 0},
		{12, 12, 15, 0},
		{12, 15, 17, 0},
		{17, 12, 15, 201}, // 17 is ahead of the answer's name, at 19, but not of 15
		{15, 12, 15, 201},
		{16, 12, 15, 201},
		{12, 17, 17, 201},
		{12, 18, 17, 201},
		{14, 12, 15, 202},
		{12, 19, 17, 201},
	} {
		b := wire(replyA[:15], 192, c.toType, 192, c.toClass, 192, c.to, addrA)
		if r, err := DecodeReply(b); err != c.err || (err == 0) != (len(r.Records) == 1) {
			t.Error(c, r, err)
		}
	}
	// A part that begins with a label: what counts is where the label begins, at 13, not where its pointer is.
	for to, wantErr := range map[int]api.Errno{12: 202, 13: 201, 14: 201, 15: 201} {
		b := wire(replyA[:12], 4, 1, "z", 192, to, 0, 0, 1, 0, 1, 192, 13, addrA)
		if _, err := DecodeReply(b); err != wantErr {
			t.Error(to, err)
		}
	}
}

// P20.4: what stands behind an answer's name.
func TestRecords(t *testing.T) {
	srv := []byte{0, 33, 0, 1, 0, 0, 0, 5}
	for _, c := range []struct {
		record []byte
		err    api.Errno
	}{
		{wire(0, 1, 0, 1, 0, 0, 0, 0, 0, 4, 1, 2, 3, 4), 0},
		{wire(0, 1, 0, 1, 0, 0, 0, 0, 0), 200},
		{wire(0, 2, 0, 1, 0, 0, 0, 0, 0), 200},
		{wire(), 200},
		{wire(0, 2, 0, 1, 0, 0, 0, 0, 0, 0), 202},
		{wire(1, 1, 0, 1, 0, 0, 0, 0, 0, 4, 1, 2, 3, 4), 202},
		{wire(0, 255, 0, 1, 0, 0, 0, 0, 0, 4, 1, 2, 3, 4), 202},
		{wire(0, 1, 0, 255, 0, 0, 0, 0, 0, 4), 202},
		{wire(0, 1, 0, 0, 0, 0, 0, 0, 0, 4), 202},
		{wire(0, 1, 1, 1, 0, 0, 0, 0, 0, 4), 202},
		{wire(0, 1, 0, 1, 0, 0, 0, 0, 0, 4, 1, 2, 3), 200},
		{wire(0, 1, 0, 1, 0, 0, 0, 0, 0, 5, 1, 2, 3, 4), 200},
		{wire(0, 1, 0, 1, 0, 0, 0, 0, 1, 4, 1, 2, 3, 4), 200},
		{wire(0, 1, 0, 1, 0, 0, 0, 0, 0, 5, 1, 2, 3, 4, 5), 202},
		{wire(0, 1, 0, 1, 0, 0, 0, 0, 0, 3, 1, 2, 3), 202},
		{wire(0, 1, 0, 1, 0, 0, 0, 0, 0, 0), 202},
		{wire(0, 1, 0, 1, 0, 0, 0, 0, 0, 4, 1, 2, 3, 4, 5), 202},
		{wire(srv, 0, 8, 0, 1, 0, 1, 0, 80, 192, 12), 0},
		{wire(srv, 0, 7, 0, 1, 0, 1, 0, 80, 0), 0},
		{wire(srv, 0, 9, 0, 1, 0, 1, 0, 80, 1, "n", 0), 0},
		{wire(srv, 0, 10, 0, 1, 0, 1, 0, 80, 1, "n", 192, 12), 0},
		{wire(srv, 0, 8, 0, 1, 0, 1, 0, 80, 0), 200},
		{wire(srv, 0, 5, 0, 1, 0, 1, 0), 202},
		{wire(srv, 0, 0), 202},
		{wire(srv, 0, 5, 0, 1, 0, 1), 200},
		{wire(srv, 0, 7, 0, 2, 0, 1, 0, 80, 0), 202},
		{wire(srv, 0, 7, 1, 1, 0, 1, 0, 80, 0), 202},
		{wire(srv, 0, 7, 0, 1, 0, 0, 0, 80, 0), 202},
		{wire(srv, 0, 7, 0, 1, 1, 1, 0, 80, 0), 202},
		{wire(srv, 0, 7, 0, 2, 0, 1, 0, 80, 64), 202},
		{wire(srv, 0, 7, 0, 1, 0, 1, 0, 80, 64), 201},
		{wire(srv, 0, 8, 0, 1, 0, 1, 0, 80, 192, 39), 201},
		{wire(srv, 0, 8, 0, 1, 0, 1, 0, 80, 192, 37), 201}, // the target's own place
		{wire(srv, 0, 8, 0, 1, 0, 1, 0, 80, 192, 36), 201}, // 80 is no length
		{wire(srv, 0, 8, 0, 1, 0, 1, 0, 80, 192, 35), 0},
		{wire(srv, 0, 7, 0, 1, 0, 1, 0, 80, 192), 200},
		{wire(srv, 0, 7, 0, 1, 0, 1, 0, 80, 192, 12), 202},
		{wire(srv, 0, 6, 0, 1, 0, 1, 0, 80), 200},
		{wire(srv, 0, 6, 0, 1, 0, 1, 0, 80, 0), 202},
		{wire(srv, 0, 6, 0, 1, 0, 1, 0, 80, 64), 201},
		{wire(srv, 0, 8, 0, 1, 0, 1, 0, 80, 0, 0), 202},
		{wire(srv, 0, 8, 0, 1, 0, 1, 0, 80, 1, "n"), 200},
		{wire(srv, 0, 8, 0, 1, 0, 1, 0, 80, 1, "n", 0), 202},
	} {
		b := wire(askedA, 192, 12, c.record)
		want, wantErr := modelReply(b)
		if r, err := DecodeReply(b); err != wantErr || !sameReply(r, want) {
			t.Error(c.record, r, err, wantErr)
		}
		if wantErr != c.err {
			t.Error(c.record, wantErr)
		}
	}
}

// pointerTo: the pointer's two bytes.
func pointerTo(place int) []byte { return []byte{byte(192 + place/256), byte(place % 256)} }

// P20.4: a target may be as long as a name may, wherever its labels stand. The question has the longest name: labels at 12, 76, 140, 204, 264, its end at 266.
func TestLongTargets(t *testing.T) {
	l := long()[0]
	asked := wire(replyA[:12], 63, l, 63, l, 63, l, 59, l[:59], 1, "a", 0, 0, 33, 0, 1)
	for _, c := range []struct {
		target []byte
		count  int
		err    api.Errno
	}{
		{pointerTo(12), 5, 0},
		{wire(1, "y", pointerTo(12)), 0, 201},
		{wire(1, "y", pointerTo(264)), 2, 0},
		{wire(63, l, pointerTo(76)), 5, 0},
		{wire(63, l, pointerTo(12)), 0, 201},
		{wire(63, l, 1, "y", pointerTo(76)), 0, 201},
		{wire(63, l, 63, l, 63, l, 61, l[:61], pointerTo(266)), 4, 0},
		{wire(63, l, 63, l, 63, l, 61, l[:61], pointerTo(264)), 0, 201},
		{wire(63, l, 63, l, 63, l, 59, l[:59], pointerTo(264)), 5, 0},
		{wire(63, l, 63, l, 63, l, 60, l[:60], pointerTo(264)), 0, 201},
	} {
		size := 6 + len(c.target)
		b := wire(asked, 192, 12, 0, 33, 0, 1, 0, 0, 0, 0, size/256, size%256, 0, 1, 0, 1, 0, 80, c.target)
		r, err := DecodeReply(b)
		if err != c.err || err == 0 && len(r.Records[0].Target) != c.count {
			t.Error(c.target, r, err)
		}
	}
}

// P20.4: pointers reach as far as 14 bits do, and a chain of them ends.
func TestFarPointers(t *testing.T) {
	b := wire(replyA[:6], 0, 0, 0, 0, 0, 0, 0, 0, 33, 0, 1)
	count := 0
	add := func(target []byte) {
		b = wire(b, 192, 12, 0, 33, 0, 1, 0, 0, 0, 0, 0, 6+len(target), 0, 1, 0, 1, 0, 80, target)
		count++
		b[6], b[7] = byte(count/256), byte(count%256)
	}
	add(wire(1, "x", 0))
	// Each target points to the one before: all of them are x.
	for last := 35; ; {
		next := len(b) + 18
		if next > 16383 {
			add(pointerTo(last))
			break
		}
		add(pointerTo(last))
		last = next
	}
	r, err := DecodeReply(b)
	if err != 0 || len(r.Records) != count {
		t.Fatal(len(r.Records), count, err)
	}
	for i, rec := range r.Records {
		if len(rec.Target) != 1 || rec.Target[0] != "x" {
			t.Fatal(i, rec)
		}
	}
	if len(b) < 16384 {
		t.Error("the message is too short:", len(b))
	}
}
