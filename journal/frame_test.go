package journal

import (
	"bytes"
	"encoding/binary"
	"hash/crc32"
	"math"
	"math/rand"
	"reflect"
	"strings"
	"testing"

	"muster/api"
)

// Errors

func TestNumbers(t *testing.T) {
	for i, e := range []api.Errno{api.ErrEntry, api.ErrShort, api.ErrFrame, api.ErrPayload, api.ErrGap, api.ErrSplit} {
		if e != api.Errno(130+i) {
			t.Errorf("error %d is %d", 130+i, e)
		}
	}
	if api.MaxFrame != 131072 || api.MaxOps != 64 {
		t.Error(api.MaxFrame, api.MaxOps)
	}
}

// The chapter's example.
func TestExample(t *testing.T) {
	b, err := Encode(entry(2, dropNode("a")))
	payload := []byte{0, 0, 0, 0, 0, 0, 0, 2, 1, 4, 0, 1, 97}
	want := append([]byte{77, 0, 0, 0, 13}, payload...)
	want = binary.BigEndian.AppendUint32(want, Sum(payload))
	if !bytes.Equal(b, want) || err != api.OK {
		t.Errorf("%v, %d, not %v", b, err, want)
	}
}

// P13.1

func TestSum(t *testing.T) {
	for text, want := range map[string]uint32{
		"":          0,
		"\x00":      0xD202EF8D,
		"a":         0xE8B7BE43,
		"123456789": 0xCBF43926,
		"The quick brown fox jumps over the lazy dog": 0x414FA339,
		strings.Repeat("\xff", 4):                     0xFFFFFFFF,
		strings.Repeat("\x00", 32):                    0x190A55AD,
	} {
		if got := Sum([]byte(text)); got != want {
			t.Errorf("Sum(%q) = %x, not %x", text, got, want)
		}
	}
	if Sum(nil) != 0 {
		t.Error(Sum(nil))
	}
}

func TestSumOfAllShortBytes(t *testing.T) {
	for a := range 256 {
		for b := range 256 {
			two := []byte{byte(a), byte(b)}
			if Sum(two) != crc32.ChecksumIEEE(two) || Sum(two[:1]) != crc32.ChecksumIEEE(two[:1]) {
				t.Fatal(two)
			}
		}
	}
}

func TestSumOfRandomBytes(t *testing.T) {
	rnd := rand.New(rand.NewSource(1))
	for _, length := range []int{3, 4, 5, 7, 8, 9, 15, 16, 17, 255, 256, 257, 65535, 65536, api.MaxFrame, 1 << 20} {
		b := make([]byte, length)
		rnd.Read(b)
		before := bytes.Clone(b)
		if got, want := Sum(b), crc32.ChecksumIEEE(before); got != want || !bytes.Equal(b, before) {
			t.Errorf("%d bytes: %x, not %x", length, got, want)
		}
	}
}

// P13.2

func TestEncodeKinds(t *testing.T) {
	want8 := []byte{1, 1, 2, 3, 4, 5, 6, 7, 8}
	for _, x := range []struct {
		op          api.Op
		kind        byte
		behindTheOp string
	}{
		{node("a", home), 1, "\x01a\x0810.0.0.1"},
		{service("a", "i", "w", 80, "x", "yz"), 2, "\x01a\x01i\x01w\x00\x50\x02\x01x\x02yz"},
		{service("a", "i", "w", 65534), 2, "\x01a\x01i\x01w\xff\xfe\x00"},
		{check("a", "c", "i", api.Critical, "so so"), 3, "\x01a\x01c\x01i\x03\x05so so"},
		{check("a", "c", "", api.Passing, ""), 3, "\x01a\x01c\x00\x01\x00"},
		{dropNode("a"), 4, "\x01a"},
		{dropService("a", "i"), 5, "\x01a\x01i"},
		{dropCheck("a", "c"), 6, "\x01a\x01c"},
	} {
		head := []byte{1, 2, 3, 4, 5, 6, 7, 8, 1, x.kind}
		for payload, o := range map[string]api.Op{
			string(head) + "\x00" + x.behindTheOp:        x.op,
			string(head) + string(want8) + x.behindTheOp: cas(x.op, 0x0102030405060708),
		} {
			b, err := Encode(entry(0x0102030405060708, o))
			if want := framed([]byte(payload)); !bytes.Equal(b, want) || err != api.OK {
				t.Errorf("Encode(%+v) = %v, %d, not %v", o, b, err, want)
			}
		}
	}
}

func TestEncodeEdges(t *testing.T) {
	long := strings.Repeat("q", 63)
	for _, index := range []uint64{0, 1, 255, 256, 1 << 63, math.MaxUint64} {
		encodes(t, entry(index, dropNode("a")))
		encodes(t, entry(1, cas(dropNode("a"), index)))
	}
	for _, o := range []api.Op{
		node(long, "255.255.255.255"), node("0", "0.0.0.0"), service(long, long, long, 1), service("a", "b", "c", 65535), greatest().Ops[0],
		check(long, long, long, 1, strings.Repeat("~", 200)), check("a", "b", "", 3, " "), dropNode(long), dropService(long, long), dropCheck(long, long),
	} {
		if encodes(t, entry(7, o)) == nil {
			t.Errorf("%+v is refused", o)
		}
	}
	for many := range 70 {
		e := entry(9)
		for range many {
			e.Ops = append(e.Ops, dropNode("a"))
		}
		b, err := Encode(e)
		if sound := many >= 1 && many <= 64; sound != (err == api.OK) || sound != (len(b) > 0) {
			t.Errorf("%d operations: %d bytes, %d", many, len(b), err)
		}
		encodes(t, e)
	}
	if encodes(t, entry(1, make([]api.Op, 100000)...)) != nil {
		t.Error("too many operations are taken")
	}
}

// The longest payload there is fits into a frame.
func TestEncodeGreatest(t *testing.T) {
	b := encodes(t, greatest())
	if len(b) != 5+9+64*1229+4 {
		t.Errorf("%d bytes", len(b))
	}
	if err := decodes(t, b); err != api.OK {
		t.Error(err)
	}
}

// No list and an empty one are one.
func TestEncodeEmptyLists(t *testing.T) {
	for _, o := range kinds() {
		if len(o.Service.Tags) > 0 {
			continue
		}
		o.Service.Tags = nil
		none, err := Encode(entry(2, o))
		o.Service.Tags = []string{}
		empty, emptyErr := Encode(entry(2, o))
		if !bytes.Equal(none, empty) || len(none) == 0 || err != api.OK || emptyErr != api.OK {
			t.Errorf("%+v: %v, %d; %v, %d", o, none, err, empty, emptyErr)
		}
	}
	for _, e := range []api.Entry{{}, {Index: 1}, {Index: 1, Ops: []api.Op{}}} {
		if b, err := Encode(e); len(b) != 0 || err != api.ErrEntry {
			t.Error(b, err)
		}
	}
}

// Operations that have a normal form, but are another one; and some that have none.
func TestEncodeUnsound(t *testing.T) {
	spoil := func(o api.Op, how func(o *api.Op)) api.Op {
		how(&o)
		return o
	}
	for _, o := range []api.Op{
		{}, {Kind: 7}, {Kind: -1}, {Kind: 256 + 4, Node: api.Node{Name: "a"}}, {Kind: math.MaxInt}, {Kind: math.MinInt},
		node("A", home), node("", home), node("-", home), node("a.b", home), node(strings.Repeat("a", 64), home), node("a", ""), node("a", "10.0.0"), node("a", "010.0.0.1"), node("a", "10.0.0.256"),
		service("A", "i", "w", 80), service("a", "I", "w", 80), service("a", "i", "W", 80), service("a", "i", "", 80), service("", "i", "w", 80), service("a", "", "w", 80),
		service("a", "i", "w", 0), service("a", "i", "w", -1), service("a", "i", "w", 65536), service("a", "i", "w", 65536+80), service("a", "i", "w", math.MinInt),
		service("a", "i", "w", 80, "X"), service("a", "i", "w", 80, ""), service("a", "i", "w", 80, "y", "x"), service("a", "i", "w", 80, "x", "x"), service("a", "i", "w", 80, strings.Split("abcdefghijklmnopq", "")...),
		check("A", "c", "", 1, ""), check("a", "C", "", 1, ""), check("a", "c", "I", 1, ""), check("a", "c", "-", 1, ""), check("a", "c", "", 0, ""), check("a", "c", "", 4, ""), check("a", "c", "", 257, ""), check("a", "c", "", -1, ""), check("a", "c", "", 1, "\n"), check("a", "c", "", 1, "\x7f"), check("a", "c", "", 1, strings.Repeat("n", 201)), check("a", "c", "", 1, strings.Repeat("n", 257)),
		dropNode("A"), dropNode(""), dropService("A", "i"), dropService("a", "I"), dropService("a", ""), dropCheck("A", "c"), dropCheck("a", "C"), dropCheck("", "c"),
		spoil(dropNode("a"), func(o *api.Op) { o.Want = 1 }),
		spoil(dropNode("a"), func(o *api.Op) { o.Node.Addr = home }),
		spoil(dropService("a", "i"), func(o *api.Op) { o.Service.Tags = []string{"x"} }),
		spoil(dropCheck("a", "i"), func(o *api.Op) { o.Check.Status = 1 }),
		spoil(node("a", home), func(o *api.Op) { o.Node.Made = 1 }),
		spoil(node("a", home), func(o *api.Op) { o.Service.Tags = []string{"x"} }),
	} {
		for _, e := range []api.Entry{entry(2, o), entry(2, dropNode("a"), o), entry(2, o, dropNode("a")), entry(2, cas(o, 5), cas(o, 6), o)} {
			if encodes(t, e) != nil {
				t.Errorf("%+v is taken", e)
			}
		}
	}
}

// leaves: calls with each part of the value that has no parts.
func leaves(v reflect.Value, each func(leaf reflect.Value)) {
	if v.Kind() != reflect.Struct {
		each(v)
		return
	}
	for i := range v.NumField() {
		leaves(v.Field(i), each)
	}
}

// Each part of each kind's operation filled with each of some values: sound only if the model says so.
func TestEncodeAllParts(t *testing.T) {
	fills := []any{0, 1, 2, 3, 4, 65535, 65536, -1, uint64(0), uint64(1), uint64(math.MaxUint64), false, true, "", "a", "A", "zz", home, "so so", "\x00", []string(nil), []string{"x"}, []string{"x", "y"}, []string{"y", "x"}}
	sound := 0
	for _, base := range kinds() {
		count := 0
		leaves(reflect.ValueOf(&base).Elem(), func(reflect.Value) { count++ })
		for at := range count {
			for _, fill := range fills {
				o, place := base, 0
				leaves(reflect.ValueOf(&o).Elem(), func(leaf reflect.Value) {
					if place == at && leaf.Type() == reflect.TypeOf(fill) {
						leaf.Set(reflect.ValueOf(fill))
					}
					place++
				})
				if b := encodes(t, entry(3, o)); b != nil {
					sound++
					decodes(t, b)
				}
			}
		}
	}
	if sound < 100 {
		t.Errorf("hardly one is sound: %d", sound)
	}
}

// P13.3

func TestDecodeOrder(t *testing.T) {
	good := framed(modelPayload(entry(2, dropNode("a"))))
	refusesBytes(t, nil, api.ErrShort)
	refusesBytes(t, []byte{}, api.ErrShort)
	for mark := range 256 {
		if mark == 77 {
			continue
		}
		// Ahead of all else that is wrong: short, too long a length, a wrong sum.
		for _, rest := range [][]byte{nil, {0}, {0, 0, 0}, {255, 255, 255, 255}, {0, 0, 0, 0, 1, 2, 3, 4}, good[1:], good[1:9]} {
			refusesBytes(t, append([]byte{byte(mark)}, rest...), api.ErrFrame)
		}
	}
	for _, b := range [][]byte{{77}, {77, 255}, {77, 255, 255}, {77, 255, 255, 255}, {77, 0, 0, 0}} {
		refusesBytes(t, b, api.ErrShort)
	}
	for _, head := range [][]byte{{77, 0, 2, 0, 1}, {77, 0, 2, 1, 0}, {77, 0, 3, 0, 0}, {77, 1, 0, 0, 0}, {77, 128, 0, 0, 0}, {77, 255, 255, 255, 255}, {77, 255, 255, 255, 251}, {77, 255, 255, 255, 252}} {
		refusesBytes(t, head, api.ErrFrame)
		refusesBytes(t, append(head, good...), api.ErrFrame)
	}
	for _, head := range [][]byte{{77, 0, 0, 0, 0}, {77, 0, 2, 0, 0}, {77, 0, 1, 255, 255}, {77, 0, 0, 0, 1}} {
		refusesBytes(t, head, api.ErrShort)
		refusesBytes(t, append(head, 1, 2, 3), api.ErrShort)
	}
	refusesBytes(t, []byte{77, 0, 0, 0, 0, 0, 0, 0, 1}, api.ErrFrame)
	refusesBytes(t, []byte{77, 0, 0, 0, 0, 0, 0, 0, 0}, api.ErrPayload)
	refusesBytes(t, []byte{77, 0, 0, 0, 1, 9, 0, 0, 0, 0}, api.ErrFrame)
	refusesBytes(t, framed([]byte{9}), api.ErrPayload)
}

// A length of MaxFrame is none too many; one more is, though the frame be whole.
func TestDecodeMaxFrame(t *testing.T) {
	payload := make([]byte, api.MaxFrame+1)
	copy(payload, modelPayload(entry(2, dropNode("a"))))
	refusesBytes(t, framed(payload[:api.MaxFrame]), api.ErrPayload)
	refusesBytes(t, framed(payload), api.ErrFrame)
	frame := framed(payload[:api.MaxFrame])
	refusesBytes(t, frame[:len(frame)-1], api.ErrShort)
	frame[len(frame)-1] ^= 1
	refusesBytes(t, frame, api.ErrFrame)
}

// Every beginning of a frame is short; what stands behind one isn't looked at.
func TestDecodeBeginnings(t *testing.T) {
	for _, o := range kinds() {
		frame := modelFrame(entry(5, o, o))
		for length := range frame {
			refusesBytes(t, frame[:length], api.ErrShort)
			// Bytes in the spare room are not of the argument.
			refusesBytes(t, frame[:length:length], api.ErrShort)
		}
		for _, behind := range [][]byte{{0}, {77}, {77, 255, 255, 255, 255}, frame, frame[:3], make([]byte, 1000)} {
			b := append(bytes.Clone(frame), behind...)
			e, n, err := Decode(b)
			if !sameEntry(e, entry(5, o, o)) || n != len(frame) || err != api.OK {
				t.Errorf("Decode(%v) = %+v, %d, %d", b, e, n, err)
			}
		}
	}
}

func TestDecodePayloads(t *testing.T) {
	index := "\x00\x00\x00\x00\x00\x00\x00\x02"
	for payload, want := range map[string]api.Errno{
		index + "\x01\x04\x00\x01a":                                         api.OK,
		index + "\x01\x04\x01\x00\x00\x00\x00\x00\x00\x00\x00\x01a":         api.OK,
		index + "\x02\x04\x00\x01a\x04\x00\x01a":                            api.OK,
		index + "\x01\x04\x00\x01a" + "\x00":                                api.ErrPayload, // one byte more
		index + "\x01\x04\x00\x01a\x04\x00\x01a":                            api.ErrPayload, // one operation more
		index + "\x02\x04\x00\x01a":                                         api.ErrPayload, // one less
		index + "\x00":                                                      api.ErrPayload,
		index + "\x00\x04\x00\x01a":                                         api.ErrPayload,
		index + "\x40" + strings.Repeat("\x04\x00\x01a", 64):                api.OK,
		index + "\x41" + strings.Repeat("\x04\x00\x01a", 65):                api.ErrPayload,
		index + "\xff" + strings.Repeat("\x04\x00\x01a", 255):               api.ErrPayload,
		"\x00\x00\x00\x00\x00\x00\x00\x00\x01\x04\x00\x01a":                 api.OK,
		index + "\x01\x04\x02\x01a":                                         api.ErrPayload, // neither 0 nor 1
		index + "\x01\x04\xff\x01a":                                         api.ErrPayload,
		index + "\x01\x04\x02\x00\x00\x00\x00\x00\x00\x00\x00\x01a":         api.ErrPayload,
		index + "\x01\x04\x01\x00\x00\x00\x00\x00\x00\x00":                  api.ErrPayload,
		index + "\x01\x00\x00\x01a":                                         api.ErrPayload, // none of the six
		index + "\x01\x00\x00":                                              api.ErrPayload,
		index + "\x01\x07\x00":                                              api.ErrPayload,
		index + "\x01\x84\x00\x01a":                                         api.ErrPayload,
		index + "\x01\x04\x00\x00":                                          api.ErrPayload, // no name
		index + "\x01\x04\x00\x01A":                                         api.ErrPayload, // not in normal form
		index + "\x01\x04\x00\x02a":                                         api.ErrPayload,
		index + "\x01\x04\x00\xffa":                                         api.ErrPayload,
		index + "\x01\x04\x00":                                              api.ErrPayload,
		index + "\x01\x04\x00\x3f" + strings.Repeat("a", 63):                api.OK,
		index + "\x01\x04\x00\x40" + strings.Repeat("a", 64):                api.ErrPayload,
		index + "\x01\x01\x00\x01a\x0810.0.0.1":                             api.OK,
		index + "\x01\x01\x00\x01a\x0910.00.0.1":                            api.ErrPayload,
		index + "\x01\x02\x00\x01a\x01i\x01w\x00\x01\x00":                   api.OK,
		index + "\x01\x02\x00\x01a\x01i\x01w\x00\x00\x00":                   api.ErrPayload, // port 0
		index + "\x01\x02\x00\x01a\x01i\x01w\xff\xff\x02\x01x\x01y":         api.OK,
		index + "\x01\x02\x00\x01a\x01i\x01w\xff\xff\x02\x01y\x01x":         api.ErrPayload, // tags that fall
		index + "\x01\x02\x00\x01a\x01i\x01w\xff\xff\x02\x01x\x01x":         api.ErrPayload,
		index + "\x01\x02\x00\x01a\x01i\x01w\xff\xff\x03\x01x\x01y":         api.ErrPayload,
		index + "\x01\x02\x00\x01a\x01i\x01w\xff\xff\x01\x01x\x01y":         api.ErrPayload,
		index + "\x01\x02\x00\x01a\x01i\x01w\xff\xff\x11" + seventeenTags(): api.ErrPayload,
		index + "\x01\x03\x00\x01a\x01c\x00\x01\x00":                        api.OK,
		index + "\x01\x03\x00\x01a\x01c\x01i\x03\x02 ~":                     api.OK,
		index + "\x01\x03\x00\x01a\x01c\x00\x00\x00":                        api.ErrPayload, // status 0
		index + "\x01\x03\x00\x01a\x01c\x00\x04\x00":                        api.ErrPayload,
		index + "\x01\x03\x00\x01a\x01c\x00\x01\x01\n":                      api.ErrPayload,
		index + "\x01\x03\x00\x01a\x01c\x00\x01\xc8" + notes(200):           api.OK,
		index + "\x01\x03\x00\x01a\x01c\x00\x01\xc9" + notes(201):           api.ErrPayload,
		index + "\x01\x05\x00\x01a\x01i":                                    api.OK,
		index + "\x01\x05\x00\x01a":                                         api.ErrPayload,
		index + "\x01\x06\x00\x01a\x01i":                                    api.OK,
		index + "\x01\x06\x00\x01a\x01I":                                    api.ErrPayload,
		index:                                                               api.ErrPayload,
		"":                                                                  api.ErrPayload,
		"\x00\x00\x00\x00\x00\x00\x02\x01":                                  api.ErrPayload,
	} {
		if err := decodes(t, framed([]byte(payload))); err != want {
			t.Errorf("Decode of the payload %q: %d, not %d", payload, err, want)
		}
	}
}

func seventeenTags() string {
	return "\x01" + strings.Join(strings.Split("abcdefghijklmnopq", ""), "\x01")
}

func notes(many int) string { return strings.Repeat("n", many) }

// Each byte of a payload changed to each other one, left out, or put in, and the sum made right: told as the model tells it.
func TestDecodeAllChangedPayloads(t *testing.T) {
	met := map[api.Errno]int{}
	for _, o := range kinds() {
		payload := modelPayload(entry(300, o, dropNode("b")))
		for at := range payload {
			met[decodes(t, framed(payload[:at]))]++
			met[decodes(t, framed(append(bytes.Clone(payload[:at]), payload[at+1:]...)))]++
			for b := range 256 {
				changed := bytes.Clone(payload)
				changed[at] = byte(b)
				met[decodes(t, framed(changed))]++
				more := append(append(bytes.Clone(payload[:at]), byte(b)), payload[at:]...)
				met[decodes(t, framed(more))]++
			}
		}
	}
	if met[api.OK] < 100 || met[api.ErrPayload] < 100 || len(met) != 2 {
		t.Error(met)
	}
}

func TestDecodeRandomBytes(t *testing.T) {
	rnd := rand.New(rand.NewSource(1))
	met := map[api.Errno]int{}
	for range 20000 {
		b := make([]byte, rnd.Intn(60))
		for i := range b {
			b[i] = pick(rnd, 0, 0, 1, 1, 2, 4, 5, 77, 'a', 'b', byte(rnd.Intn(256)))
		}
		met[decodes(t, b)]++
		met[decodes(t, append([]byte{77, 0, 0, 0}, b...))]++
		met[decodes(t, framed(b))]++
		met[decodes(t, framed(append([]byte{0, 0, 0, 0, 0, 0, 0, 9, 1}, b...)))]++
	}
	for _, e := range []api.Errno{api.ErrShort, api.ErrFrame, api.ErrPayload} {
		if met[e] == 0 {
			t.Errorf("error %d is never met", e)
		}
	}
}

// The answer hangs on the bytes no more: they may be written over.
func TestDecodeIsNew(t *testing.T) {
	want := entry(8, kinds()...)
	b := modelFrame(want)
	first, _, _ := Decode(b)
	second, _, _ := Decode(b)
	scribbleBytes(b)
	if !sameEntry(first, want) {
		t.Errorf("%+v, not %+v", first, want)
	}
	scribble(first)
	if !sameEntry(second, want) {
		t.Errorf("%+v, not %+v", second, want)
	}
}

// No two lists of one answer share memory, spare room included.
func TestDecodeListsAreApart(t *testing.T) {
	o := service("a", "i", "w", 80, "x", "y", "z")
	e, _, _ := Decode(modelFrame(entry(8, o, o, o)))
	tags := e.Ops[1].Service.Tags
	scribble(entry(0, api.Op{Service: api.Service{Tags: tags}}))
	if !sameOps([]api.Op{e.Ops[0], e.Ops[2]}, []api.Op{o, o}) {
		t.Errorf("%+v", e)
	}
}

func TestEncodeIsNew(t *testing.T) {
	e := entry(8, kinds()...)
	first, _ := Encode(e)
	second, _ := Encode(e)
	scribbleBytes(first)
	if !bytes.Equal(second, modelFrame(e)) {
		t.Error(second)
	}
	frame, _ := Encode(e)
	scribble(e)
	if !bytes.Equal(frame, second) {
		t.Error(frame)
	}
}

// P13.4

func TestThereAndBack(t *testing.T) {
	rnd := rand.New(rand.NewSource(1))
	for range 1000 {
		e := randomEntry(rnd, randomIndex(rnd))
		frame := encodes(t, e)
		if frame == nil {
			t.Fatalf("%+v is refused", e)
		}
		behind := make([]byte, rnd.Intn(20))
		rnd.Read(behind)
		got, n, err := Decode(append(bytes.Clone(frame), behind...))
		if !sameEntry(got, e) || n != len(frame) || err != api.OK {
			t.Fatalf("%+v, %d, %d, not %+v, %d", got, n, err, e, len(frame))
		}
	}
}

// Every byte but those of the length, changed to every other one, is told.
func TestChangedByteIsTold(t *testing.T) {
	for _, o := range kinds() {
		frame := modelFrame(entry(2, o))
		for at := range frame {
			if at >= 1 && at < 5 {
				continue
			}
			for b := 1; b < 256; b++ {
				changed := bytes.Clone(frame)
				changed[at] ^= byte(b)
				refusesBytes(t, changed, api.ErrFrame)
			}
		}
	}
}

func TestChangedByteOfTheGreatestIsTold(t *testing.T) {
	frame := modelFrame(greatest())
	for at := 0; at < len(frame); at += 997 {
		if at >= 1 && at < 5 {
			continue
		}
		frame[at] ^= 0x10
		if e, n, err := Decode(frame); len(e.Ops) != 0 || n != 0 || err != api.ErrFrame {
			t.Fatal(at, n, err)
		}
		frame[at] ^= 0x10
	}
}

// A changed length is told, too, as the model tells it: it may be short, have a wrong sum, or (a length of 0 ahead of four noughts) no entry.
func TestChangedLength(t *testing.T) {
	for _, o := range kinds() {
		frame := append(modelFrame(entry(2, o)), modelFrame(entry(3, o))...)
		for at := 1; at < 5; at++ {
			for b := 1; b < 256; b++ {
				changed := bytes.Clone(frame)
				changed[at] ^= byte(b)
				if err := decodes(t, changed); err == api.OK {
					t.Fatalf("%v is taken", changed)
				}
			}
		}
	}
}
