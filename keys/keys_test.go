package keys

import (
	"slices"
	"strings"
	"testing"

	"muster/api"
)

func text(s string) api.Part { return api.Part{Kind: api.PartText, Text: s} }
func num(n uint64) api.Part  { return api.Part{Kind: api.PartNum, Num: n} }
func flag(n uint64) api.Part { return api.Part{Kind: api.PartFlag, Num: n} }

func list(parts ...api.Part) []api.Part { return parts }

func flags(n int) []api.Part { return slices.Repeat(list(flag(1)), n) }

func key(bytes ...byte) string { return string(bytes) }

const greatest = 1<<64 - 1

// invalid: parts of each kind that aren't valid, and kinds that are none.
func invalid() []api.Part {
	return []api.Part{
		{},
		{Text: "a"},
		{Num: 1},
		{Kind: -1},
		{Kind: 4},
		{Kind: 257}, // as a byte it would be PartText
		{Kind: 1 << 30},
		{Kind: api.PartText, Num: 1},
		{Kind: api.PartText, Text: "a", Num: greatest},
		{Kind: api.PartNum, Text: "a"},
		{Kind: api.PartNum, Text: "\x00", Num: 1},
		{Kind: api.PartFlag, Num: 2},
		{Kind: api.PartFlag, Num: 256}, // as a byte it would be 0
		{Kind: api.PartFlag, Num: greatest},
		{Kind: api.PartFlag, Text: "a"},
		{Kind: api.PartFlag, Text: "a", Num: 1},
		{Kind: api.PartFlag, Text: "a", Num: 2},
	}
}

// spread: valid lists of up to two parts, with texts and numbers at the edges.
func spread() [][]api.Part {
	parts := []api.Part{flag(0), flag(1)}
	for _, n := range []uint64{0, 1, 2, 255, 256, 258, 1<<32 - 1, 1 << 32, 1 << 63, greatest - 1, greatest} {
		parts = append(parts, num(n))
	}
	for _, s := range texts([]byte{0, 1, 2, 'a', 255}, 2) {
		parts = append(parts, text(s))
	}
	lists := [][]api.Part{nil}
	for _, p := range parts {
		lists = append(lists, list(p))
		for _, q := range parts {
			lists = append(lists, list(p, q))
		}
	}
	return lists
}

// texts: all texts of at most so many of these bytes.
func texts(of []byte, most int) []string {
	all := []string{""}
	for from := 0; most > 0; most-- {
		to := len(all)
		for _, s := range all[from:to] {
			for _, b := range of {
				all = append(all, s+string([]byte{b}))
			}
		}
		from = to
	}
	return all
}

func TestNumbers(t *testing.T) {
	got := []int{api.PartText, api.PartNum, api.PartFlag, int(api.OK), int(api.ErrPart), int(api.ErrKeyLong), int(api.ErrKey), api.MaxKey}
	if want := []int{1, 2, 3, 0, 10, 11, 12, 1024}; !slices.Equal(got, want) {
		t.Errorf("the kinds, errors and the limit are %v, want %v", got, want)
	}
}

func TestEncodePieces(t *testing.T) {
	for _, c := range []struct {
		parts []api.Part
		want  string
	}{
		{nil, ""},
		{list(), ""},
		{list(text("a")), key(1, 97, 0, 1)},
		{list(text("a\x00"), num(258)), key(1, 97, 0, 255, 0, 1, 2, 0, 0, 0, 0, 0, 0, 1, 2)},
		{list(text("")), key(1, 0, 1)},
		{list(text(""), text("")), key(1, 0, 1, 1, 0, 1)},
		{list(text("\x00")), key(1, 0, 255, 0, 1)},
		{list(text("\x00\x00b")), key(1, 0, 255, 0, 255, 98, 0, 1)},
		{list(text("\x00\x01\x00\xff")), key(1, 0, 255, 1, 0, 255, 255, 0, 1)},
		{list(text("\x01\xff")), key(1, 1, 255, 0, 1)},
		{list(text("é")), key(1, 0xc3, 0xa9, 0, 1)},
		{list(num(0)), key(2, 0, 0, 0, 0, 0, 0, 0, 0)},
		{list(num(0x0102030405060708)), key(2, 1, 2, 3, 4, 5, 6, 7, 8)},
		{list(num(1 << 63)), key(2, 128, 0, 0, 0, 0, 0, 0, 0)},
		{list(num(greatest)), key(2, 255, 255, 255, 255, 255, 255, 255, 255)},
		{list(flag(0)), key(3, 0)},
		{list(flag(1)), key(3, 1)},
		{list(flag(1), text("b"), num(1), flag(0)), key(3, 1, 1, 98, 0, 1, 2, 0, 0, 0, 0, 0, 0, 0, 1, 3, 0)},
	} {
		if got, err := Encode(c.parts); got != c.want || err != api.OK {
			t.Errorf("Encode(%#v) = %q, %d, want %q", c.parts, got, err, c.want)
		}
	}
}

func TestEncodeLength(t *testing.T) {
	for _, c := range []struct {
		name   string
		parts  []api.Part
		length int
		err    api.Errno
	}{
		{"a text", list(text(strings.Repeat("a", 1021))), 1024, api.OK},
		{"a text", list(text(strings.Repeat("a", 1022))), 0, api.ErrKeyLong},
		{"a text", list(text(strings.Repeat("a", 1023))), 0, api.ErrKeyLong},
		{"a text", list(text(strings.Repeat("a", 1024))), 0, api.ErrKeyLong},
		{"a text", list(text(strings.Repeat("a", 1025))), 0, api.ErrKeyLong},
		{"a long text", list(text(strings.Repeat("a", 1<<20))), 0, api.ErrKeyLong},
		{"zeros", list(text(strings.Repeat("\x00", 510))), 1023, api.OK},
		{"zeros", list(text(strings.Repeat("\x00", 510) + "a")), 1024, api.OK},
		{"zeros", list(text(strings.Repeat("\x00", 511))), 0, api.ErrKeyLong},
		{"flags", flags(512), 1024, api.OK},
		{"flags", flags(513), 0, api.ErrKeyLong},
		{"numbers and a text", append(slices.Repeat(list(num(7)), 113), text("abcd")), 1024, api.OK},
		{"numbers and a text", append(slices.Repeat(list(num(7)), 113), text("abcde")), 0, api.ErrKeyLong},
		{"numbers", slices.Repeat(list(num(7)), 113), 1017, api.OK},
		{"numbers", slices.Repeat(list(num(7)), 114), 0, api.ErrKeyLong},
		{"a text and a number", list(text(strings.Repeat("a", 1012)), num(1)), 1024, api.OK},
		{"a text and a number", list(text(strings.Repeat("a", 1013)), num(1)), 0, api.ErrKeyLong},
		{"two texts", list(text(strings.Repeat("a", 500)), text(strings.Repeat("b", 518))), 1024, api.OK},
		{"two texts", list(text(strings.Repeat("a", 500)), text(strings.Repeat("b", 519))), 0, api.ErrKeyLong},
	} {
		if got, err := Encode(c.parts); len(got) != c.length || err != c.err {
			t.Errorf("Encode of %s: %d bytes, %d, want %d, %d", c.name, len(got), err, c.length, c.err)
		}
	}
}

func TestBeginPieces(t *testing.T) {
	for _, c := range []struct {
		parts []api.Part
		want  string
	}{
		{nil, ""},
		{list(text("a")), key(1, 97)},
		{list(text("")), key(1)},
		{list(text("a\x00")), key(1, 97, 0, 255)},
		{list(text("a\x00\x01")), key(1, 97, 0, 255, 1)},
		{list(text("a"), text("b")), key(1, 97, 0, 1, 1, 98)},
		{list(text("a"), text("")), key(1, 97, 0, 1, 1)},
		{list(num(258), text("b")), key(2, 0, 0, 0, 0, 0, 0, 1, 2, 1, 98)},
		{list(flag(1), text("b")), key(3, 1, 1, 98)},
	} {
		if got, err := Begin(c.parts); got != c.want || err != api.OK {
			t.Errorf("Begin(%#v) = %q, %d, want %q", c.parts, got, err, c.want)
		}
	}
}

func TestBeginIsEncodeWithoutLastText(t *testing.T) {
	for _, parts := range spread() {
		want, _ := Encode(parts)
		if len(parts) > 0 && parts[len(parts)-1].Kind == api.PartText {
			want = strings.TrimSuffix(want, "\x00\x01")
		}
		if got, err := Begin(parts); got != want || err != api.OK {
			t.Fatalf("Begin(%#v) = %q, %d, want %q", parts, got, err, want)
		}
	}
}

func TestBeginLength(t *testing.T) {
	for _, c := range []struct {
		name   string
		parts  []api.Part
		length int
		err    api.Errno
	}{
		{"a text", list(text(strings.Repeat("a", 1023))), 1024, api.OK},
		{"a text", list(text(strings.Repeat("a", 1024))), 0, api.ErrKeyLong},
		{"a text", list(text(strings.Repeat("a", 1025))), 0, api.ErrKeyLong},
		{"a text", list(text(strings.Repeat("a", 1026))), 0, api.ErrKeyLong},
		{"zeros", list(text(strings.Repeat("\x00", 511) + "a")), 1024, api.OK},
		{"zeros", list(text(strings.Repeat("\x00", 512))), 0, api.ErrKeyLong},
		{"flags", flags(512), 1024, api.OK},
		{"flags", flags(513), 0, api.ErrKeyLong},
		{"flags and a text", append(flags(511), text("a")), 1024, api.OK},
		{"flags and a text", append(flags(511), text("ab")), 0, api.ErrKeyLong},
		{"flags and a text", append(flags(512), text("")), 0, api.ErrKeyLong},
		{"a text and a flag", list(text(strings.Repeat("a", 1019)), flag(0)), 1024, api.OK},
		{"a text and a flag", list(text(strings.Repeat("a", 1020)), flag(0)), 0, api.ErrKeyLong},
		{"a long text and a text", list(text(strings.Repeat("a", 1021)), text("")), 0, api.ErrKeyLong},
	} {
		if got, err := Begin(c.parts); len(got) != c.length || err != c.err {
			t.Errorf("Begin of %s: %d bytes, %d, want %d, %d", c.name, len(got), err, c.length, c.err)
		}
	}
}

// goesOn: does the list begin with all parts but the last, and go on with a text that begins with the last one's?
func goesOn(parts, with []api.Part) bool {
	last := len(with) - 1
	if last < 0 || with[last].Kind != api.PartText {
		return len(parts) >= len(with) && slices.Equal(parts[:len(with)], with)
	}
	if len(parts) < len(with) || !slices.Equal(parts[:last], with[:last]) {
		return false
	}
	return parts[last].Kind == api.PartText && strings.HasPrefix(parts[last].Text, with[last].Text)
}

func TestKeysThatBeginWithBegin(t *testing.T) {
	lists := spread()
	for _, with := range lists {
		begin, _ := Begin(with)
		for _, parts := range lists {
			key, _ := Encode(parts)
			if got, want := strings.HasPrefix(key, begin), goesOn(parts, with); got != want {
				t.Fatalf("the key of %#v begins with Begin(%#v): %v, want %v", parts, with, got, want)
			}
		}
	}
}

func TestInvalidParts(t *testing.T) {
	good := text("a")
	for _, bad := range invalid() {
		for _, parts := range [][]api.Part{list(bad), list(bad, good), list(good, bad), list(num(1), bad, flag(1))} {
			if got, err := Encode(parts); got != "" || err != api.ErrPart {
				t.Errorf("Encode(%#v) = %q, %d", parts, got, err)
			}
			if got, err := Begin(parts); got != "" || err != api.ErrPart {
				t.Errorf("Begin(%#v) = %q, %d", parts, got, err)
			}
			if got, err := Compare(parts, list(good)); got != 0 || err != api.ErrPart {
				t.Errorf("Compare(%#v, good) = %d, %d", parts, got, err)
			}
			if got, err := Compare(list(good), parts); got != 0 || err != api.ErrPart {
				t.Errorf("Compare(good, %#v) = %d, %d", parts, got, err)
			}
			if got, err := Compare(parts, parts); got != 0 || err != api.ErrPart {
				t.Errorf("Compare(%#v, itself) = %d, %d", parts, got, err)
			}
		}
	}
}

func TestInvalidPartAheadOfLength(t *testing.T) {
	long := text(strings.Repeat("a", 2000))
	for _, bad := range invalid() {
		for _, parts := range [][]api.Part{list(long, bad), list(bad, long), append(flags(600), bad)} {
			if got, err := Encode(parts); got != "" || err != api.ErrPart {
				t.Errorf("Encode of a long list with %#v = %q, %d", bad, got, err)
			}
			if got, err := Begin(parts); got != "" || err != api.ErrPart {
				t.Errorf("Begin of a long list with %#v = %q, %d", bad, got, err)
			}
		}
	}
}

func TestDecodeIsTheWayBack(t *testing.T) {
	lists := append(spread(), flags(512), list(text(strings.Repeat("a", 1021))), list(text(strings.Repeat("\x00", 510)+"a")))
	for _, parts := range lists {
		key, err := Encode(parts)
		if err != api.OK {
			t.Fatalf("Encode(%#v): %d", parts, err)
		}
		if got, err := Decode(key); !slices.Equal(got, parts) || err != api.OK {
			t.Fatalf("Decode(%q) = %#v, %d, want %#v", key, got, err, parts)
		}
	}
}

func TestDecodeOfNoKey(t *testing.T) {
	for _, k := range []string{
		"\x01a", // torn
		key(0), key(4), key(255), key(97),
		key(1), key(1, 0), key(1, 0, 0), key(1, 0, 2), key(1, 0, 254), key(1, 97, 0), key(1, 97, 1),
		key(1, 0, 255), key(1, 0, 255, 1), key(1, 0, 255, 0), key(1, 97, 0, 97, 0, 1), key(1, 0, 0, 0, 1), key(1, 0, 0, 1),
		key(1, 97, 0, 1, 0), key(1, 97, 0, 1, 4), key(1, 97, 0, 1, 255), key(0, 1, 97, 0, 1),
		key(2), key(2, 1), key(2, 0, 0, 0, 0, 0, 0, 0), key(2, 0, 0, 0, 0, 0, 0, 0, 0, 0),
		key(3), key(3, 2), key(3, 255), key(3, 1, 1), key(3, 1, 3), key(3, 1, 3, 2), key(3, 2, 3, 1), key(3, 0, 0),
		strings.Repeat("a", 1024),
		key(1) + strings.Repeat("a", 1023),
		key(1) + strings.Repeat("a", 1022) + key(0),
	} {
		if got, err := Decode(k); len(got) != 0 || err != api.ErrKey {
			t.Errorf("Decode(%q) = %#v, %d", k, got, err)
		}
	}
}

func TestDecodeOfTornKeys(t *testing.T) {
	for _, p := range list(text(""), text("a"), text("\x00"), text("a\x00b\x01\xff\x00"), num(0), num(258), num(greatest), flag(0), flag(1)) {
		whole, _ := Encode(list(p))
		for cut := 1; cut < len(whole); cut++ {
			for _, ahead := range []string{"", key(3, 1)} {
				if got, err := Decode(ahead + whole[:cut]); len(got) != 0 || err != api.ErrKey {
					t.Errorf("Decode(%q) = %#v, %d", ahead+whole[:cut], got, err)
				}
			}
		}
	}
}

// TestDecodeOfAllShortTexts holds Decode against the keys of all lists that are short enough to have one of these texts as their key.
func TestDecodeOfAllShortTexts(t *testing.T) {
	bytes, most := []byte{0, 1, 2, 3, 4, 255}, 6
	parts := list(flag(0), flag(1))
	for _, s := range texts(bytes, most-3) {
		parts = append(parts, text(s))
	}
	lists := map[string][]api.Part{"": nil}
	grown := [][]api.Part{nil}
	for range most / flagPiece { // no piece is shorter than a flag's
		var next [][]api.Part
		for _, l := range grown {
			for _, p := range parts {
				longer := append(slices.Clone(l), p)
				if key, _ := Encode(longer); len(key) <= most {
					next = append(next, longer)
					lists[key] = longer
				}
			}
		}
		grown = next
	}
	for _, k := range texts(bytes, most) {
		want, isKey := lists[k]
		got, err := Decode(k)
		if isKey != (err == api.OK) || !isKey && err != api.ErrKey || !slices.Equal(got, want) {
			t.Fatalf("Decode(%q) = %#v, %d, want %#v", k, got, err, want)
		}
	}
}

func TestDecodeLength(t *testing.T) {
	longest, _ := Encode(flags(512))
	if got, err := Decode(longest); len(got) != 512 || err != api.OK {
		t.Errorf("Decode of 1024 bytes: %d parts, %d", len(got), err)
	}
	for _, k := range []string{
		key(1) + strings.Repeat("a", 1022) + key(0, 1), // 1025 bytes, a key but for its length
		longest + key(3, 1),
		strings.Repeat("a", 1025), // no key, either
		strings.Repeat("\x00", 5000),
	} {
		if got, err := Decode(k); len(got) != 0 || err != api.ErrKeyLong {
			t.Errorf("Decode of %d bytes: %#v, %d", len(k), got, err)
		}
	}
}

func TestCompare(t *testing.T) {
	long := strings.Repeat("a", 3000)
	for _, c := range []struct {
		a, b []api.Part
		want int
	}{
		{nil, nil, 0},
		{nil, list(), 0},
		{nil, list(text("")), -1},
		{nil, list(flag(0)), -1},
		{list(text("b")), list(text("b")), 0},
		{list(text("a")), list(text("b")), -1},
		{list(text("a")), list(text("a\x00")), -1},
		{list(text("a")), list(text("aa")), -1},
		{list(text("")), list(text("\x00")), -1},
		{list(text("\x7f")), list(text("\x80")), -1},
		{list(text("ab")), list(text("b")), -1},
		{list(text("Z")), list(text("a")), -1},
		{list(text("\xff\xff")), list(num(0)), -1},
		{list(num(greatest)), list(flag(0)), -1},
		{list(text("z")), list(flag(0)), -1},
		{list(num(255)), list(num(256)), -1},
		{list(num(1<<63 - 1)), list(num(1 << 63)), -1},
		{list(num(greatest - 1)), list(num(greatest)), -1},
		{list(num(greatest)), list(num(greatest)), 0},
		{list(flag(0)), list(flag(1)), -1},
		{list(flag(1)), list(flag(1)), 0},
		{list(text("a")), list(text("a"), text("")), -1},
		{list(text("a"), num(9)), list(text("b")), -1},
		{list(text("a"), num(9)), list(text("a\x00")), -1},
		{list(num(1), text("b"), flag(1)), list(num(1), text("b"), flag(1)), 0},
		{list(num(1), text("a"), flag(1)), list(num(1), text("b"), flag(0)), -1},
		{list(num(1), flag(0)), list(num(1), flag(0), flag(0)), -1},
		{list(text(long)), list(text(long)), 0},
		{list(text(long)), list(text(long + "a")), -1},
		{flags(2000), flags(2001), -1},
		{append(flags(2000), flag(0)), flags(2001), -1},
	} {
		if got, err := Compare(c.a, c.b); got != c.want || err != api.OK {
			t.Errorf("Compare(%#v, %#v) = %d, %d, want %d", c.a, c.b, got, err, c.want)
		}
		if got, err := Compare(c.b, c.a); got != -c.want || err != api.OK {
			t.Errorf("Compare(%#v, %#v) = %d, %d, want %d", c.b, c.a, got, err, -c.want)
		}
	}
}

func TestInvalidPartBehindTheDifference(t *testing.T) {
	for _, bad := range invalid() {
		a, b := list(text("a"), bad), list(text("b"), num(1))
		if got, err := Compare(a, b); got != 0 || err != api.ErrPart {
			t.Errorf("Compare(%#v, %#v) = %d, %d", a, b, got, err)
		}
		if got, err := Compare(b, a); got != 0 || err != api.ErrPart {
			t.Errorf("Compare(%#v, %#v) = %d, %d", b, a, got, err)
		}
		if got, err := Compare(nil, list(bad)); got != 0 || err != api.ErrPart {
			t.Errorf("Compare(nil, %#v) = %d, %d", bad, got, err)
		}
	}
}

func TestKeysKeepTheOrder(t *testing.T) {
	lists := spread()
	keys := make([]string, len(lists))
	for i, l := range lists {
		keys[i], _ = Encode(l)
	}
	for i, a := range lists {
		for j, b := range lists {
			want := strings.Compare(keys[i], keys[j])
			if got, err := Compare(a, b); got != want || err != api.OK {
				t.Fatalf("Compare(%#v, %#v) = %d, %d, but the keys' order is %d", a, b, got, err, want)
			}
			if (i == j) != (want == 0) {
				t.Fatalf("%#v and %#v: one key for two lists", a, b)
			}
		}
	}
}

func TestAfter(t *testing.T) {
	for _, c := range []struct {
		prefix, want string
		ok           bool
	}{
		{"ab", "ac", true},
		{"a\xff", "b", true},
		{"\xff", "", false},
		{"", "", false},
		{"\xff\xff\xff", "", false},
		{"a", "b", true},
		{"\x00", "\x01", true},
		{"a\x00", "a\x01", true},
		{"\xfe", "\xff", true},
		{"\xfe\xff\xff", "\xff", true},
		{"\xff\xfe", "\xff\xff", true},
		{"\xff\x00\xff", "\xff\x01", true},
		{"a\xffb\xff\xff", "a\xffc", true},
		{"\xc3\xa9\xff", "\xc3\xaa", true},
		{"\x7f", "\x80", true},
		{strings.Repeat("\xff", 3000), "", false},
		{"a" + strings.Repeat("\xff", 3000), "b", true},
	} {
		if got, ok := After(c.prefix); got != c.want || ok != c.ok {
			t.Errorf("After(%q) = %q, %v, want %q, %v", c.prefix, got, ok, c.want, c.ok)
		}
	}
}

func TestAfterIsTheLeast(t *testing.T) {
	all := texts([]byte{0, 1, 'a', 254, 255}, 4)
	for _, prefix := range texts([]byte{0, 1, 'a', 254, 255}, 3) {
		after, ok := After(prefix)
		for _, s := range all {
			if strings.HasPrefix(s, prefix) && ok && s >= after {
				t.Fatalf("After(%q) = %q, but %q begins with it", prefix, after, s)
			}
			if ok && s < after && s > prefix+"\xff\xff\xff\xff\xff" {
				t.Fatalf("After(%q) = %q, but %q is less", prefix, after, s)
			}
			if !ok && s > prefix+"\xff\xff\xff\xff\xff" {
				t.Fatalf("After(%q): none, but there is %q", prefix, s)
			}
		}
	}
}

func TestArgumentsStay(t *testing.T) {
	room := list(text("a\x00"), num(258), text("b"), flag(1), text("spare"))
	was := slices.Clone(room)
	parts := room[:3]
	Encode(parts)
	Begin(parts)
	Compare(parts, room[1:3])
	Compare(room[1:3], parts)
	if !slices.Equal(room, was) {
		t.Errorf("the arguments have become %#v", room)
	}
}

func TestAnswersAreNew(t *testing.T) {
	key, _ := Encode(list(text("a"), num(1)))
	first, _ := Decode(key)
	second, _ := Decode(key)
	for i := range first[:cap(first)] {
		first[:cap(first)][i] = text("written over")
	}
	third, _ := Decode(key)
	if want := list(text("a"), num(1)); !slices.Equal(second, want) || !slices.Equal(third, want) {
		t.Errorf("writing over one answer made the others %#v and %#v", second, third)
	}
}

// FuzzDecode: whatever bytes there are, Decode ends and is right.
func FuzzDecode(f *testing.F) {
	for _, s := range texts([]byte{0, 1, 3, 255}, 3) {
		f.Add(s)
	}
	f.Add("\x01a\x00\xff\x00\x01\x02\x00\x00\x00\x00\x00\x00\x01\x02")
	f.Fuzz(func(t *testing.T, key string) {
		parts, err := Decode(key)
		if err != api.OK && len(parts) != 0 {
			t.Errorf("Decode(%q) = %#v beside %d", key, parts, err)
		}
		if again, errAgain := Encode(parts); err == api.OK && (again != key || errAgain != api.OK) {
			t.Errorf("Decode(%q) = %#v, of which the key is %q, %d", key, parts, again, errAgain)
		}
	})
}
