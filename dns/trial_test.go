package dns

import (
	"bytes"
	"math/rand"
	"slices"
	"strings"
	"testing"

	"muster/api"
)

// asModel: both readers must say of the bytes what the plain reading says.
func asModel(t *testing.T, b []byte) {
	t.Helper()
	wantQuery, wantErr := modelQuery(b)
	if q, err := DecodeQuery(b); err != wantErr || !sameQuery(q, wantQuery) {
		t.Fatalf("%v: %+v, %d, not %+v, %d", b, q, err, wantQuery, wantErr)
	}
	wantReply, wantErr := modelReply(b)
	if r, err := DecodeReply(b); err != wantErr || !sameReply(r, wantReply) {
		t.Fatalf("%v: %+v, %d, not %+v, %d", b, r, err, wantReply, wantErr)
	}
}

// grow: all texts of at most so many of these pieces.
func grow(b []byte, pieces [][]byte, more int, try func([]byte)) {
	try(b)
	if more == 0 {
		return
	}
	for _, piece := range pieces {
		grow(wire(b, piece), pieces, more-1, try)
	}
}

// messages: a few replies and queries, right ones.
func messages() [][]byte {
	return [][]byte{
		queryA,
		replyA,
		wire(queryA[:12], 3, "a.b", 2, "cd", 0, 0, 33, 0, 1, "behind"),
		wire(replyA[:7], 3, 0, 0, 0, 0, 1, "a", 2, "bc", 0, 0, 33, 0, 1,
			1, "a", 192, 14, 0, 33, 0, 1, 0, 0, 0, 5, 0, 11, 0, 1, 0, 1, 0, 80, 2, "no", 192, 14,
			192, 22, addrA,
			192, 42, 0, 33, 0, 1, 0, 0, 0, 5, 0, 8, 0, 1, 0, 1, 1, 80, 192, 40),
	}
}

// P20.1, P20.4: each byte at each place of a message, put in and taken out, and each beginning of it.
func TestEachByte(t *testing.T) {
	for _, b := range messages() {
		for at := range len(b) + 1 {
			asModel(t, b[:at])
			for c := range 256 {
				asModel(t, wire(b[:at], c, b[at:]))
				if at < len(b) {
					asModel(t, wire(b[:at], c, b[at+1:]))
				}
			}
			if at < len(b) {
				asModel(t, wire(b[:at], b[at+1:]))
			}
		}
	}
}

// P20.1, P20.4: all short questions and names of a few pieces.
func TestShortNames(t *testing.T) {
	pieces := [][]byte{{0}, {1}, {1, 'a'}, {2}, {63}, {64}, {191}, {192}, {192, 12}, {192, 14}, {192, 19}}
	grow(nil, pieces, 5, func(name []byte) {
		asModel(t, wire(queryA[:12], name))
		asModel(t, wire(queryA[:12], name, 0, 1, 0, 1))
		asModel(t, wire(replyA[:12], name, 0, 1, 0, 1))
		asModel(t, wire(askedA, name))
		asModel(t, wire(askedA, name, addrA))
		for _, size := range []int{len(name) - 1, len(name), len(name) + 1} {
			asModel(t, wire(askedA, 192, 12, 0, 33, 0, 1, 0, 0, 0, 0, 0, 6+size, 0, 1, 0, 1, 0, 80, name))
		}
	})
}

// P20.4: names that are read through what stands around them, of all kinds of pointers.
func TestAllPointers(t *testing.T) {
	for _, b := range messages()[1:] {
		for at := 12; at+1 < len(b); at++ {
			for to := range len(b) + 1 {
				asModel(t, wire(b[:at], 192, to, b[at+2:]))
				if at+4 <= len(b) {
					for other := range len(b) + 1 {
						asModel(t, wire(b[:at], 192, to, 192, other, b[at+4:]))
					}
				}
			}
		}
	}
}

func randomLabels(random *rand.Rand) []string {
	var name []string
	for range random.Intn(4) {
		size := 1 + random.Intn(4)
		if random.Intn(6) == 0 {
			size = 1 + random.Intn(63)
		}
		name = append(name, strings.Repeat(string([]byte{byte(random.Intn(256))}), size))
	}
	if random.Intn(6) == 0 {
		name = append(name, long()[random.Intn(4):]...)
	}
	if random.Intn(20) == 0 {
		name = append(name, []string{"", strings.Repeat("z", 64), strings.Repeat("z", 300)}[random.Intn(3)])
	}
	return name
}

func randomReply(random *rand.Rand) api.DnsReply {
	r := api.DnsReply{
		Query: api.DnsQuery{
			Id: uint16(random.Uint32()), Opcode: random.Intn(16), Wish: random.Intn(2) == 0,
			Labels: randomLabels(random), Type: uint16(random.Uint32()), Class: uint16(random.Uint32()),
		},
		Rcode: random.Intn(16), Cut: random.Intn(2) == 0,
	}
	for range random.Intn(5) {
		rec := api.DnsRecord{Type: api.TypeA, Ttl: random.Uint32(), Port: uint16(random.Uint32()), Target: randomLabels(random)}
		for i := range rec.Addr {
			rec.Addr[i] = byte(random.Uint32())
		}
		if random.Intn(2) == 0 {
			rec.Type = api.TypeSRV
		}
		if random.Intn(40) == 0 {
			rec.Type = uint16(random.Intn(40))
		}
		r.Records = append(r.Records, rec)
	}
	switch random.Intn(30) {
	case 0:
		r.Query.Opcode = -1
	case 1:
		r.Rcode = 16
	}
	return r
}

// P20.2, P20.3, P20.5: random messages are written as the plain way has them, and read back.
func TestRandomReplies(t *testing.T) {
	random := rand.New(rand.NewSource(203))
	counts := map[api.Errno]int{}
	for range 20000 {
		r := randomReply(random)
		limit := []int{12 + random.Intn(400), 12 + random.Intn(60), 512, 65535, 65536}[random.Intn(5)]
		b, err := EncodeReply(r, limit)
		want, wantErr := modelEncode(r, limit)
		if err != wantErr || !bytes.Equal(b, want) {
			t.Fatalf("%+v, %d: %v, %d, not %v, %d", r, limit, b, err, want, wantErr)
		}
		counts[err]++
		query, queryErr := EncodeQuery(r.Query)
		if queryErr == 0 {
			flags := 2048 * r.Query.Opcode
			if r.Query.Wish {
				flags += 256
			}
			if !bytes.Equal(query, modelMessage(r.Query, flags, 0)) {
				t.Fatalf("%+v: %v", r.Query, query)
			}
			if back, err := DecodeQuery(query); err != 0 || !sameQuery(back, r.Query) {
				t.Fatalf("%+v: %+v, %d", r.Query, back, err)
			}
		}
		if err != 0 {
			continue
		}
		fit, _ := modelFit(r, limit)
		if back, err := DecodeReply(b); err != 0 || len(b) > limit || queryErr != 0 || !sameReply(back, plain(fit)) {
			t.Fatalf("%+v, %d: %+v, %d", r, limit, back, err)
		}
	}
	for _, err := range []api.Errno{0, 201, 202, 203} {
		if counts[err] < 500 {
			t.Error("too few of", err, counts)
		}
	}
}

// randomName: a name on the wire, pointers and all.
func randomName(random *rand.Rand, size int) []byte {
	var name []byte
	for range random.Intn(3) {
		name = append(name, 1, "ab"[random.Intn(2)])
	}
	switch random.Intn(8) {
	case 0:
		return append(name, 0)
	case 1, 2:
		return append(name, pointerTo(random.Intn(size+4))...)
	default:
		return append(name, pointerTo(12+2*random.Intn(4))...)
	}
}

// P20.4: random replies with pointers, right ones and spoilt ones.
func TestRandomPointers(t *testing.T) {
	random := rand.New(rand.NewSource(204))
	rightOnes := 0
	for range 100000 {
		b := wire(replyA[:6], 0, 0, 0, 0, 0, 0, 1, "a", 1, "b", 1, "a", 0, 0, 33, 0, 1)
		for range 1 + random.Intn(4) {
			b[7]++
			name := []byte{192, 12}
			if random.Intn(3) == 0 {
				name = randomName(random, len(b))
			}
			if random.Intn(3) == 0 {
				name = wire(1, "a", 192, 14)
			}
			b = wire(b, name)
			if random.Intn(3) == 0 {
				b = wire(b, addrA)
				continue
			}
			target := randomName(random, len(b))
			b = wire(b, 0, 33, 0, 1, 0, 0, 0, 9, 0, 6+len(target), 0, 1, 0, 1, 0, 80, target)
		}
		asModel(t, b)
		if _, err := DecodeReply(b); err == 0 {
			rightOnes++
		}
		b[random.Intn(len(b))] = byte(random.Intn(256))
		asModel(t, b)
		asModel(t, b[:random.Intn(len(b)+1)])
	}
	if rightOnes < 10000 {
		t.Error("only", rightOnes, "of 100000 replies were right")
	}
}

// scribble writes over all of the list, spare room included.
func scribble[T any](list []T, with T) {
	for i := range list[:cap(list)] {
		list[:cap(list)][i] = with
	}
}

// Rules: what is handed in isn't changed or kept; answers are new memory, and no two lists of one answer share any.
func TestNewMemory(t *testing.T) {
	for _, b := range messages() {
		given := append(make([]byte, 0, 2*len(b)), b...)
		spare := given[:cap(given)]
		want, _ := modelReply(b)
		wantQuery, _ := modelQuery(b)
		r, _ := DecodeReply(given)
		q, _ := DecodeQuery(given)
		if !bytes.Equal(spare[:len(b)], b) || slices.Max(append(spare[len(b):], 0)) != 0 {
			t.Fatal("the bytes were changed")
		}
		scribble(given, 1)
		if !sameReply(r, want) || !sameQuery(q, wantQuery) {
			t.Fatal("the bytes were kept")
		}
		scribble(q.Labels, "over")
		scribble(r.Query.Labels, "over")
		for i, rec := range r.Records {
			if !slices.Equal(rec.Target, want.Records[i].Target) {
				t.Fatal("two lists share memory")
			}
			scribble(rec.Target, "over")
		}
	}
}

// Rules: the same for what is written.
func TestNewBytes(t *testing.T) {
	random := rand.New(rand.NewSource(205))
	for range 300 {
		r := randomReply(random)
		if _, err := EncodeReply(r, 65535); err != 0 {
			continue
		}
		r.Records = slices.Grow(r.Records, 4)
		r.Query.Labels = slices.Grow(r.Query.Labels, 4)
		kept := plain(r)
		kept.Query.Labels = slices.Clone(r.Query.Labels)
		want := modelBytes(r)
		limit := len(want)
		b, _ := EncodeReply(r, limit)
		again, _ := EncodeReply(r, limit)
		short, _ := EncodeReply(r, limit-1)
		query, _ := EncodeQuery(r.Query)
		queryAgain, _ := EncodeQuery(r.Query)
		scribble(b, 1)
		scribble(short, 2)
		scribble(query, 3)
		if !bytes.Equal(again, want) || len(queryAgain) == 0 || queryAgain[5] != 1 || !sameReply(plain(r), kept) {
			t.Fatal("memory is shared")
		}
		if spare := r.Query.Labels[:cap(r.Query.Labels)][len(r.Query.Labels):]; slices.Max(spare) != "" {
			t.Fatal("spare room was written over")
		}
	}
}
