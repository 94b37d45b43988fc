package rows

import (
	"math"
	"math/rand"
	"reflect"
	"slices"
	"strconv"
	"strings"
	"testing"

	"muster/api"
	"muster/keys"
	"muster/schema"
)

// made: the one table that the lines make.
func made(t *testing.T, lines ...string) api.Table {
	t.Helper()
	s, line, e := schema.Parse("table q\n" + strings.Join(lines, "\n"))
	if e != api.OK {
		t.Fatalf("%q: %d, %d", lines, line, e)
	}
	return s.Tables[0]
}

func row(cells ...api.Cell) api.Row { return api.Row{Cells: cells} }

func text(s string) api.Cell { return api.Cell{Text: s} }

func num(n uint64) api.Cell { return api.Cell{Num: n} }

func list(elements ...string) api.Cell { return api.Cell{List: elements} }

func textPart(s string) api.Part { return api.Part{Kind: api.PartText, Text: s} }

func numPart(n uint64) api.Part { return api.Part{Kind: api.PartNum, Num: n} }

func encode(t *testing.T, parts ...api.Part) string {
	t.Helper()
	key, e := keys.Encode(parts)
	if e != api.OK {
		t.Fatal(e)
	}
	return key
}

// holdRow: holds Fit and all Keys of the row against the model.
func holdRow(t *testing.T, q api.Table, r api.Row) bool {
	t.Helper()
	if e, want := Fit(q, r), modelFit(q, r); e != want {
		t.Errorf("Fit(%v, %v) = %d, not %d", q, r, e, want)
		return false
	}
	for place := -1; place <= len(q.Indexes); place++ {
		found, e := Keys(q, place, r)
		want, wantE := modelKeys(q, place, r)
		if !slices.Equal(found, want) || e != wantE {
			t.Errorf("Keys(%v, %d, %v) = %q, %d, not %q, %d", q, place, r, found, e, want, wantE)
			return false
		}
	}
	return true
}

// holdProbe: holds Probe, left open and not, against the model.
func holdProbe(t *testing.T, q api.Table, place int, parts []api.Part) bool {
	t.Helper()
	for _, open := range []bool{false, true} {
		key, e := Probe(q, place, parts, open)
		want, wantE := modelProbe(q, place, parts, open)
		if key != want || e != wantE {
			t.Errorf("Probe(%v, %d, %v, %v) = %q, %d, not %q, %d", q, place, parts, open, key, e, want, wantE)
			return false
		}
	}
	return true
}

// fits: is the row's Fit that error, Keys' too at each place, and does the model say so?
func fits(t *testing.T, q api.Table, r api.Row, want api.Errno) {
	t.Helper()
	if e := Fit(q, r); e != want {
		t.Errorf("Fit(%v, %v) = %d, not %d", q, r, e, want)
	}
	for place := range q.Indexes {
		if found, e := Keys(q, place, r); e != want || e != api.OK && len(found) != 0 {
			t.Errorf("Keys(%v, %d, %v) = %q, %d, not %d", q, place, r, found, e, want)
		}
	}
	holdRow(t, q, r)
}

// hasKeys: are those the row's keys in the index?
func hasKeys(t *testing.T, q api.Table, place int, r api.Row, want ...string) {
	t.Helper()
	if found, e := Keys(q, place, r); !slices.Equal(found, want) || e != api.OK {
		t.Errorf("Keys(%v, %d, %v) = %q, %d, not %q", q, place, r, found, e, want)
	}
	holdRow(t, q, r)
}

// probed: is that the answer of Probe, and does the model say so?
func probed(t *testing.T, q api.Table, place int, parts []api.Part, open bool, want string, wantE api.Errno) {
	t.Helper()
	if key, e := Probe(q, place, parts, open); key != want || e != wantE {
		t.Errorf("Probe(%v, %d, %v, %v) = %q, %d, not %q, %d", q, place, parts, open, key, e, want, wantE)
	}
	holdProbe(t, q, place, parts)
}

func TestNumbers(t *testing.T) {
	errs := []api.Errno{api.ErrWide, api.ErrCell, api.ErrList, api.ErrMissing, api.ErrRowKey, api.ErrNoPlace, api.ErrProbe}
	for i, e := range errs {
		if e != api.Errno(70+i) {
			t.Errorf("error %d is %d", 70+i, e)
		}
	}
	if api.MaxList != 32 || api.MaxKey != 1024 {
		t.Errorf("%d, %d", api.MaxList, api.MaxKey)
	}
}

func TestChapterExamples(t *testing.T) {
	q := made(t, "field a text", "field l list", "index id a unique", "index tag l,a lower loose")
	r := row(text("N"), list("X", "", "x"))
	hasKeys(t, q, 1, r, encode(t, textPart("x"), textPart("n"), textPart("N")))
	hasKeys(t, q, 1, r, "\x01x\x00\x01\x01n\x00\x01\x01N\x00\x01")
	hasKeys(t, q, 0, r, "\x01N\x00\x01")
	begin, e := keys.Begin([]api.Part{textPart("x")})
	if e != api.OK {
		t.Fatal(e)
	}
	probed(t, q, 1, []api.Part{textPart("X")}, true, begin, api.OK)
	probed(t, q, 1, []api.Part{textPart("X")}, false, "\x01x\x00\x01", api.OK)
}

func TestLow(t *testing.T) {
	for b := range 256 {
		want := byte(b)
		if at := strings.IndexByte("ABCDEFGHIJKLMNOPQRSTUVWXYZ", want); at >= 0 {
			want = "abcdefghijklmnopqrstuvwxyz"[at]
		}
		for _, c := range [][2]string{
			{string([]byte{byte(b)}), string([]byte{want})},
			{string([]byte{'Q', byte(b), 'z', byte(b)}), string([]byte{'q', want, 'z', want})},
		} {
			if low := Low(c[0]); low != c[1] {
				t.Errorf("Low(%q) = %q", c[0], low)
			}
		}
	}
	for in, want := range map[string]string{
		"":              "",
		"AZaz09-@[`{":   "azaz09-@[`{",
		"ÄÉ İ K":        "ÄÉ İ k",
		"A\xff\x00\xc3": "a\xff\x00\xc3",
	} {
		if low := Low(in); low != want {
			t.Errorf("Low(%q) = %q, not %q", in, low, want)
		}
	}
	if low := Low(strings.Repeat("aB", 70000)); low != strings.Repeat("ab", 70000) {
		t.Error("a long text")
	}
}

func TestKeysOfEachKind(t *testing.T) {
	q := made(t, "field a text", "field n num", "field l list",
		"index id n,a unique",
		"index num n",
		"index both a,n unique",
		"index l l,n",
		"index only l unique",
		"index mid a,l,n")
	r := row(text("A\x00"), num(258), list("q", "P", "q", "p"))
	id := encode(t, numPart(258), textPart("A\x00"))
	n := encode(t, numPart(258))
	a := encode(t, textPart("A\x00"))
	hasKeys(t, q, 0, r, id)
	hasKeys(t, q, 1, r, n+id)
	hasKeys(t, q, 2, r, a+n)
	hasKeys(t, q, 3, r, "\x01P\x00\x01"+n+id, "\x01p\x00\x01"+n+id, "\x01q\x00\x01"+n+id)
	hasKeys(t, q, 4, r, "\x01P\x00\x01", "\x01p\x00\x01", "\x01q\x00\x01")
	hasKeys(t, q, 5, r, a+"\x01P\x00\x01"+n+id, a+"\x01p\x00\x01"+n+id, a+"\x01q\x00\x01"+n+id)
	hasKeys(t, q, 1, row(text("b"), num(math.MaxUint64), list("e")), "\x02\xff\xff\xff\xff\xff\xff\xff\xff\x02\xff\xff\xff\xff\xff\xff\xff\xff\x01b\x00\x01")
}

// The keys rise by their bytes, whatever the list's order; elements that Low makes one have one key.
func TestKeysRise(t *testing.T) {
	q := made(t, "field a text", "field l list", "index id a unique", "index l l", "index low l unique lower")
	r := row(text("i"), list("b", "ab", "a", "B", "a\x00", "a\x01", "a", "AB"))
	id := "\x01i\x00\x01"
	hasKeys(t, q, 1, r,
		"\x01AB\x00\x01"+id,
		"\x01B\x00\x01"+id,
		"\x01a\x00\x01"+id,
		"\x01a\x00\xff\x00\x01"+id,
		"\x01a\x01\x00\x01"+id,
		"\x01ab\x00\x01"+id,
		"\x01b\x00\x01"+id)
	hasKeys(t, q, 2, r,
		"\x01a\x00\x01",
		"\x01a\x00\xff\x00\x01",
		"\x01a\x01\x00\x01",
		"\x01ab\x00\x01",
		"\x01b\x00\x01")
}

func TestLowerOfEachIndex(t *testing.T) {
	for _, c := range []struct {
		id, other string
		want      string
	}{
		{"index id a unique", "index x b", "\x01Bb\x00\x01\x01Aa\x00\x01"},
		{"index id a unique lower", "index x b", "\x01Bb\x00\x01\x01aa\x00\x01"},
		{"index id a unique", "index x b lower", "\x01bb\x00\x01\x01Aa\x00\x01"},
		{"index id a unique lower", "index x b lower", "\x01bb\x00\x01\x01aa\x00\x01"},
		{"index id a unique lower", "index x b,a", "\x01Bb\x00\x01\x01Aa\x00\x01\x01aa\x00\x01"},
		{"index id a unique lower", "index x b unique", "\x01Bb\x00\x01"},
		{"index id a unique", "index x b unique lower", "\x01bb\x00\x01"},
	} {
		q := made(t, "field a text", "field b text", c.id, c.other)
		hasKeys(t, q, 1, row(text("Aa"), text("Bb")), c.want)
	}
}

func TestLooseLeavesOut(t *testing.T) {
	q := made(t, "field a text", "field b text", "field l list", "field n num",
		"index id n unique",
		"index b b loose",
		"index lb l,b unique loose",
		"index n n loose")
	id := "\x02\x00\x00\x00\x00\x00\x00\x00\x00"
	hasKeys(t, q, 1, row(text(""), text(""), list("x"), num(0)))
	hasKeys(t, q, 2, row(text(""), text(""), list("x"), num(0)))
	hasKeys(t, q, 1, row(text(""), text("b"), list(), num(0)), "\x01b\x00\x01"+id)
	hasKeys(t, q, 2, row(text(""), text("b"), list(), num(0)))
	hasKeys(t, q, 2, row(text(""), text("b"), list(""), num(0)))
	hasKeys(t, q, 2, row(text(""), text("b"), list("", "x", ""), num(0)), "\x01x\x00\x01\x01b\x00\x01")
	hasKeys(t, q, 3, row(text(""), text(""), list(), num(0)), id+id)
}

func TestWide(t *testing.T) {
	q := made(t, "field a text", "field n num", "index id a unique")
	fits(t, q, row(), api.ErrWide)
	fits(t, q, row(text("a")), api.ErrWide)
	fits(t, q, row(text("a"), num(1)), api.OK)
	fits(t, q, row(text("a"), num(1), num(0)), api.ErrWide)
	fits(t, q, row(api.Cell{Text: "a", Num: 1}), api.ErrWide)
}

func TestCells(t *testing.T) {
	q := made(t, "field a text", "field n num", "field l list", "index id n unique")
	parts := []api.Cell{text("x"), num(1), list("")}
	for place := range q.Fields {
		for used := range 8 {
			r := row(text(""), num(0), list())
			var c api.Cell
			if used&1 != 0 {
				c.Text = parts[0].Text
			}
			if used&2 != 0 {
				c.Num = parts[1].Num
			}
			if used&4 != 0 {
				c.List = parts[2].List
			}
			r.Cells[place] = c
			want := api.ErrCell
			if used&^(1<<place) == 0 {
				want = api.OK
			}
			fits(t, q, r, want)
		}
	}
	fits(t, q, row(api.Cell{Text: "a", List: []string{}}, num(math.MaxUint64), list("", "")), api.OK)
}

func TestLists(t *testing.T) {
	q := made(t, "field l list", "field n num", "field m list", "index id n unique", "index l l loose")
	many := make([]string, 40)
	for i := range many {
		many[i] = strconv.Itoa(i)
	}
	fits(t, q, row(list(many[:32]...), num(0), list(many[:32]...)), api.OK)
	fits(t, q, row(list(many[:33]...), num(0), list()), api.ErrList)
	fits(t, q, row(list(), num(0), list(many[:33]...)), api.ErrList)
	fits(t, q, row(list(make([]string, 33)...), num(0), list()), api.ErrList)
	if found, e := Keys(q, 1, row(list(many[:32]...), num(0), list())); len(found) != 32 || !slices.IsSorted(found) || e != api.OK {
		t.Errorf("%q, %d", found, e)
	}
	// Cell by cell from the left, and in one cell ErrCell first.
	fits(t, q, row(list(many[:33]...), api.Cell{Text: "x"}, list()), api.ErrList)
	fits(t, q, row(list(), api.Cell{Text: "x"}, list(many[:33]...)), api.ErrCell)
	fits(t, q, row(api.Cell{Num: 1, List: many[:33]}, num(0), list()), api.ErrCell)
	fits(t, q, row(list(), list(many[:33]...), list()), api.ErrCell)
}

func TestMissing(t *testing.T) {
	q := made(t, "field a text", "field n num", "field l list", "field b text", "index id a,n unique", "index l n,l")
	fits(t, q, row(text("a"), num(0), list("x"), text("")), api.OK)
	fits(t, q, row(text(""), num(0), list("x"), text("")), api.ErrMissing)
	fits(t, q, row(text("a"), num(0), list(), text("")), api.ErrMissing)
	fits(t, q, row(text("a"), num(0), list(""), text("")), api.ErrMissing)
	fits(t, q, row(text("a"), num(0), list("x", ""), text("")), api.ErrMissing)
	fits(t, q, row(text("a"), num(0), list("", "x"), text("")), api.ErrMissing)
	// The cells come ahead of the indexes.
	fits(t, q, row(text(""), num(0), list(), num(1)), api.ErrCell)
	fits(t, q, row(text(""), num(0), list(make([]string, 33)...), text("")), api.ErrList)
}

// room is how long a text of its own can be in a key of MaxKey bytes.
const room = api.MaxKey - 3

func TestLongKeys(t *testing.T) {
	long := strings.Repeat("x", 2*api.MaxKey)
	q := made(t, "field a text", "field b text", "field l list", "index id a unique", "index b b loose", "index l l unique loose")
	fits(t, q, row(text(long[:room]), text(""), list()), api.OK)
	fits(t, q, row(text(long[:room+1]), text(""), list()), api.ErrRowKey)
	fits(t, q, row(text(long[:room-2]+"\x00"), text(""), list()), api.OK)
	fits(t, q, row(text(long[:room-1]+"\x00"), text(""), list()), api.ErrRowKey)
	// The id's parts count where they stand behind.
	fits(t, q, row(text(long[:10]), text(long[:room-13]), list()), api.OK)
	fits(t, q, row(text(long[:10]), text(long[:room-12]), list()), api.ErrRowKey)
	fits(t, q, row(text(long[:room]), text("b"), list(long[:room])), api.ErrRowKey)
	fits(t, q, row(text(long[:room]), text(""), list("", long[:room], "")), api.OK)
	fits(t, q, row(text("a"), text(""), list("x", long[:room+1], "y")), api.ErrRowKey)
	fits(t, q, row(text("a"), text(""), list(long)), api.ErrRowKey)
	// Fields without an index may be as long as they like.
	plain := made(t, "field a text", "field b text", "index id a unique")
	fits(t, plain, row(text("a"), text(long)), api.OK)
}

// A key list that is left out is none of the row's, however long it would be.
func TestLeftOutIsNotLong(t *testing.T) {
	long := strings.Repeat("x", 2*api.MaxKey)
	q := made(t, "field a text", "field b text", "field l list", "index id a unique", "index bl b,l loose")
	hasKeys(t, q, 1, row(text("a"), text(long), list()))
	hasKeys(t, q, 1, row(text("a"), text(long), list("", "")))
	hasKeys(t, q, 1, row(text("a"), text(""), list(long)))
	fits(t, q, row(text("a"), text(long), list("", "x")), api.ErrRowKey)
}

func TestOrderOfIndexes(t *testing.T) {
	long := strings.Repeat("x", 2*api.MaxKey)
	q := made(t, "field a text", "field b text", "field l list", "index id a unique", "index b b", "index l l")
	fits(t, q, row(text("a"), text(long), list()), api.ErrRowKey)
	fits(t, q, row(text("a"), text(""), list(long)), api.ErrMissing)
	fits(t, q, row(text(long), text(""), list()), api.ErrRowKey)
	fits(t, q, row(text("a"), text("b"), list(long, "")), api.ErrMissing)
	fits(t, q, row(text("a"), text("b"), list("", long)), api.ErrMissing)
	fits(t, q, row(text("a"), text("b"), list("x", long)), api.ErrRowKey)
}

func TestPlaces(t *testing.T) {
	q := made(t, "field a text", "field n num", "index id a unique", "index n n")
	good, bad := row(text("a"), num(0)), row(text("a"))
	for _, place := range []int{math.MinInt, -1, 2, 3, math.MaxInt} {
		for _, r := range []api.Row{good, bad} {
			if found, e := Keys(q, place, r); len(found) != 0 || e != api.ErrNoPlace {
				t.Errorf("Keys(%d) = %q, %d", place, found, e)
			}
		}
		for _, parts := range [][]api.Part{nil, {textPart("a")}, {{Kind: 9}}, make([]api.Part, 9)} {
			probed(t, q, place, parts, true, "", api.ErrNoPlace)
		}
	}
	hasKeys(t, q, 0, good, "\x01a\x00\x01")
	if found, e := Keys(q, 0, bad); len(found) != 0 || e != api.ErrWide {
		t.Errorf("%q, %d", found, e)
	}
	// Keys asks for the whole row: another index's error is told, too.
	if found, e := Keys(q, 1, row(text(""), num(0))); len(found) != 0 || e != api.ErrMissing {
		t.Errorf("%q, %d", found, e)
	}
}

func TestProbe(t *testing.T) {
	q := made(t, "field a text", "field n num", "field l list", "index id a unique", "index x l,n,a", "index low a,n unique lower")
	probed(t, q, 1, nil, false, "", api.OK)
	probed(t, q, 1, nil, true, "", api.OK)
	probed(t, q, 1, []api.Part{textPart("X")}, false, "\x01X\x00\x01", api.OK)
	probed(t, q, 1, []api.Part{textPart("X")}, true, "\x01X", api.OK)
	probed(t, q, 1, []api.Part{textPart("")}, true, "\x01", api.OK)
	probed(t, q, 1, []api.Part{textPart("")}, false, "\x01\x00\x01", api.OK)
	for _, open := range []bool{false, true} {
		probed(t, q, 1, []api.Part{textPart("X"), numPart(1)}, open, "\x01X\x00\x01\x02\x00\x00\x00\x00\x00\x00\x00\x01", api.OK)
	}
	probed(t, q, 1, []api.Part{textPart("X"), numPart(1), textPart("Y")}, true, "\x01X\x00\x01\x02\x00\x00\x00\x00\x00\x00\x00\x01\x01Y", api.OK)
	probed(t, q, 2, []api.Part{textPart("Xy\x00Z")}, true, "\x01xy\x00\xffz", api.OK)
	probed(t, q, 2, []api.Part{textPart("XY"), numPart('A')}, false, "\x01xy\x00\x01\x02\x00\x00\x00\x00\x00\x00\x00A", api.OK)
	for _, parts := range [][]api.Part{
		{textPart("X"), numPart(1), textPart("Y"), textPart("a")}, // the id's part, which stands behind, is no field of the index
		{numPart(1)},
		{textPart("X"), textPart("Y")},
		{{Kind: api.PartFlag}},
		{textPart("X"), {Kind: api.PartFlag, Num: 1}},
		{{Kind: api.PartText, Text: "X", Num: 1}},
		{textPart("X"), {Kind: api.PartNum, Text: "1"}},
		{{}},
		{{Kind: 4}},
		{{Kind: -1}},
		{textPart("X"), numPart(1), {}},
	} {
		probed(t, q, 1, parts, false, "", api.ErrProbe)
		probed(t, q, 1, parts, true, "", api.ErrProbe)
	}
	probed(t, q, 0, []api.Part{textPart("a"), textPart("b")}, true, "", api.ErrProbe)
}

func TestLongProbes(t *testing.T) {
	long := strings.Repeat("X", 2*api.MaxKey)
	low := strings.ToLower(long)
	q := made(t, "field a text", "field n num", "index id a unique lower", "index x a,n")
	probed(t, q, 0, []api.Part{textPart(long[:room])}, false, "\x01"+low[:room]+"\x00\x01", api.OK)
	probed(t, q, 0, []api.Part{textPart(long[:room+1])}, false, "", api.ErrRowKey)
	probed(t, q, 0, []api.Part{textPart(long[:room+2])}, true, "\x01"+low[:room+2], api.OK)
	probed(t, q, 0, []api.Part{textPart(long[:room+3])}, true, "", api.ErrRowKey)
	probed(t, q, 0, []api.Part{textPart(long)}, true, "", api.ErrRowKey)
	// The id's parts don't count: the answer has none of them.
	probed(t, q, 1, []api.Part{textPart(long[:room-9]), numPart(0)}, true, "\x01"+long[:room-9]+"\x00\x01\x02\x00\x00\x00\x00\x00\x00\x00\x00", api.OK)
	probed(t, q, 1, []api.Part{textPart(long[:room-8]), numPart(0)}, true, "", api.ErrRowKey)
	probed(t, q, 1, []api.Part{textPart(long), textPart("")}, true, "", api.ErrProbe)
	probed(t, q, 1, []api.Part{textPart(long), {Kind: api.PartNum, Text: "x"}}, true, "", api.ErrProbe)
}

// choices: all lists of up to most different words.
func choices(words []string, most int) [][]string {
	all := [][]string{}
	var grow func(list []string)
	grow = func(list []string) {
		if len(list) > 0 {
			all = append(all, list)
		}
		if len(list) == most {
			return
		}
		for _, w := range words {
			if !slices.Contains(list, w) {
				grow(append(slices.Clone(list), w))
			}
		}
	}
	grow(nil)
	return all
}

// smallTables: tables with all second indexes of up to three of four fields.
func smallTables(t *testing.T) []api.Table {
	var all []api.Table
	for _, id := range []string{"a unique", "a unique lower", "n unique", "b,a unique", "n,b unique lower"} {
		for _, over := range choices([]string{"a", "n", "l", "b"}, 3) {
			for flags := range 8 {
				line := "index x " + strings.Join(over, ",")
				for i, flag := range []string{" unique", " lower", " loose"} {
					if flags&(1<<i) != 0 {
						line += flag
					}
				}
				all = append(all, made(t, "field a text", "field n num", "field l list", "field b text", "index id "+id, line))
			}
		}
	}
	return all
}

func smallRows() []api.Row {
	var all []api.Row
	for _, a := range []string{"", "A", "a\x00B"} {
		for _, n := range []uint64{0, 300} {
			for _, l := range [][]string{nil, {"x"}, {"", "X"}, {"X", "x", "x"}, {"b", "a\x00", "a", "A"}} {
				for _, b := range []string{"", "Z"} {
					all = append(all, row(text(a), num(n), list(l...), text(b)))
				}
			}
		}
	}
	return all
}

func TestAllSmallRows(t *testing.T) {
	all := smallRows()
	for _, q := range smallTables(t) {
		for _, r := range all {
			if !holdRow(t, q, r) {
				return
			}
		}
	}
}

func TestAllSmallProbes(t *testing.T) {
	words := []api.Part{textPart("X"), textPart(""), numPart(5), {Kind: api.PartFlag, Num: 1}, {Kind: api.PartText, Num: 1}, {Kind: api.PartNum, Text: "A"}, {}}
	lists := [][]api.Part{nil}
	for i := 0; len(lists[i]) < 4; i++ {
		for _, p := range words {
			lists = append(lists, append(slices.Clone(lists[i]), p))
		}
	}
	for i, q := range smallTables(t) {
		// Each table with a share of the lists: all kinds of tables meet all lists.
		for j := i % 7; j < len(lists); j += 7 {
			for place := range q.Indexes {
				if !holdProbe(t, q, place, lists[j]) {
					return
				}
			}
		}
	}
}

// What Probe answers is the beginning of just those keys whose key lists begin with the parts.
func TestProbeFindsItsKeys(t *testing.T) {
	q := made(t, "field a text", "field n num", "field l list", "field b text", "index id a unique", "index x l,b lower loose", "index y n,l,a loose")
	texts := []string{"A", "a", "x", "X", "Z", "a\x00", "a\x00b", "q"}
	for _, r := range smallRows() {
		if Fit(q, r) != api.OK {
			continue
		}
		for _, first := range texts {
			for _, second := range texts {
				probe, e := Probe(q, 1, []api.Part{textPart(first), textPart(second)}, false)
				if e != api.OK {
					t.Fatal(e)
				}
				found, _ := Keys(q, 1, r)
				has := slices.ContainsFunc(found, func(key string) bool { return strings.HasPrefix(key, probe) })
				want := slices.ContainsFunc(r.Cells[2].List, func(s string) bool { return strings.EqualFold(s, first) }) && strings.EqualFold(r.Cells[3].Text, second)
				if has != want {
					t.Errorf("%v, %q, %q: %v", r, first, second, has)
				}
			}
			probe, e := Probe(q, 2, []api.Part{numPart(300), textPart(first)}, true)
			if e != api.OK {
				t.Fatal(e)
			}
			found, _ := Keys(q, 2, r)
			has := slices.ContainsFunc(found, func(key string) bool { return strings.HasPrefix(key, probe) })
			want := slices.ContainsFunc(r.Cells[2].List, func(s string) bool { return strings.HasPrefix(s, first) }) && r.Cells[1].Num == 300
			if has != want {
				t.Errorf("%v, %q: %v", r, first, has)
			}
		}
	}
}

// randomCell: most often one that fits, at times one that is wrong or long.
func randomCell(g *rand.Rand, kind int) api.Cell {
	if g.Intn(60) == 0 {
		kind = 1 + g.Intn(3)
	}
	long := func() string {
		lengths := []int{0, 1, 1, 1, 2, 3, 3, 330, 509, 1010, 1021}
		return strings.Repeat(string(rune('A'+g.Intn(2)*32)), lengths[g.Intn(len(lengths))])
	}
	var c api.Cell
	switch kind {
	case api.FieldText:
		c.Text = long()
	case api.FieldNum:
		c.Num = g.Uint64()
	case api.FieldList:
		many := g.Intn(4)
		if g.Intn(20) == 0 {
			many = 31 + g.Intn(3)
		}
		for range many {
			c.List = append(c.List, long())
		}
	}
	return c
}

func TestRandomRows(t *testing.T) {
	g := rand.New(rand.NewSource(7))
	tables := []api.Table{
		made(t, "field a text", "index id a unique"),
		made(t, "field a text", "field l list", "field n num", "index id a unique lower", "index l l loose", "index ln l,n lower loose", "index n n"),
		made(t, "field l list", "field m list", "field n num", "field a text", "index id n unique", "index l l", "index m m,n lower loose", "index am a,m unique loose"),
		made(t, "field a text", "field b text", "field c text", "field d text", "index id a,b unique", "index c c", "index d d,c,b,a unique lower", "index e d,c loose"),
	}
	seen := map[api.Errno]int{}
	for range 12000 {
		q := tables[g.Intn(len(tables))]
		var r api.Row
		for _, f := range q.Fields {
			r.Cells = append(r.Cells, randomCell(g, f.Kind))
		}
		if g.Intn(60) == 0 {
			r.Cells = append(r.Cells, api.Cell{})[g.Intn(2)*2:]
		}
		seen[Fit(q, r)]++
		if !holdRow(t, q, r) {
			return
		}
	}
	for _, e := range []api.Errno{api.OK, api.ErrWide, api.ErrCell, api.ErrList, api.ErrMissing, api.ErrRowKey} {
		if seen[e] < 50 {
			t.Errorf("error %d came %d times", e, seen[e])
		}
	}
}

// Tables that layer 6 never gives: the calls end, and none panics.
func TestStrangeTables(t *testing.T) {
	g := rand.New(rand.NewSource(8))
	try := func(q api.Table, r api.Row, parts []api.Part) {
		Fit(q, r)
		for place := -1; place <= len(q.Indexes); place++ {
			if found, e := Keys(q, place, r); e != api.OK && len(found) != 0 {
				t.Errorf("Keys(%v, %d, %v) = %q, %d", q, place, r, found, e)
			}
			if key, e := Probe(q, place, parts, place%2 == 0); e != api.OK && key != "" {
				t.Errorf("Probe(%v, %d, %v) = %q, %d", q, place, parts, key, e)
			}
		}
	}
	try(api.Table{}, api.Row{}, nil)
	for range 20000 {
		var q api.Table
		var r api.Row
		for range g.Intn(4) {
			kind := g.Intn(6) - 1
			q.Fields = append(q.Fields, api.Field{Kind: kind})
			r.Cells = append(r.Cells, randomCell(g, kind))
		}
		for range g.Intn(4) {
			x := api.Index{Unique: g.Intn(2) == 0, Lower: g.Intn(2) == 0, Loose: g.Intn(2) == 0}
			for range g.Intn(5) {
				x.Over = append(x.Over, g.Intn(6)-1)
			}
			q.Indexes = append(q.Indexes, x)
		}
		var parts []api.Part
		for range g.Intn(4) {
			parts = append(parts, api.Part{Kind: g.Intn(3)})
		}
		try(q, r, parts)
	}
	// One list field so often that not all ways to choose its elements could be gone through.
	q := api.Table{Fields: []api.Field{{Kind: api.FieldList}}, Indexes: []api.Index{{Over: make([]int, 2000)}}}
	try(q, row(list(strings.Split(strings.Repeat("a", api.MaxList), "")...)), nil)
	q.Indexes[0].Over[5], q.Indexes[0].Over[6] = math.MaxInt, math.MinInt
	try(q, row(list("a", "b")), make([]api.Part, 3000))
}

// kept: the cells as they lie in memory, spare room too.
func kept(cells []api.Cell) []api.Cell {
	out := slices.Clone(cells[:cap(cells)])
	for i, c := range out {
		out[i].List = slices.Clone(c.List[:cap(c.List)])
	}
	return out
}

func TestArgumentsStay(t *testing.T) {
	q := made(t, "field a text", "field l list", "field b text", "index id a unique lower", "index l l,b lower loose", "index b b")
	for i := range q.Indexes {
		q.Indexes[i].Over = append(q.Indexes[i].Over, 77)[:len(q.Indexes[i].Over)]
	}
	before := api.Table{
		Name:    q.Name,
		Fields:  slices.Clone(q.Fields),
		Indexes: slices.Clone(q.Indexes),
	}
	overs := [][]int{}
	for i, x := range q.Indexes {
		overs = append(overs, slices.Clone(x.Over[:cap(x.Over)]))
		before.Indexes[i].Over = overs[i][:len(x.Over)]
	}
	elements := append(make([]string, 0, 9), "Z", "", "Y", "z", "S", "P")
	cells := append(make([]api.Cell, 0, 5), text("A"), list(elements[:4]...), text("B"), text("C"), text("D"))
	cells[1].List = elements[:4]
	cellsBefore := kept(cells)
	parts := append(make([]api.Part, 0, 4), textPart("A"), textPart("B"), textPart("C"), textPart("D"))
	partsBefore := slices.Clone(parts)
	r := api.Row{Cells: cells[:3]}
	Fit(q, r)
	for place := range q.Indexes {
		Keys(q, place, r)
		for many := range 4 {
			Probe(q, place, parts[:many], true)
			Probe(q, place, parts[:many], false)
		}
	}
	if !reflect.DeepEqual(q, before) || !reflect.DeepEqual(kept(cells), cellsBefore) || !slices.Equal(parts, partsBefore) {
		t.Errorf("%v, %v, %v", q, cells, parts)
	}
	for i, x := range q.Indexes {
		if !slices.Equal(x.Over[:cap(x.Over)], overs[i]) {
			t.Errorf("%v", x.Over[:cap(x.Over)])
		}
	}
}

// An answer may be written over, with all its spare room: the next one is as it was.
func TestAnswersAreNew(t *testing.T) {
	q := made(t, "field a text", "field l list", "index id a unique", "index l l unique", "index low l lower")
	r := row(text("A"), list("Z", "z", "y"))
	for place := range q.Indexes {
		first, e := Keys(q, place, r)
		if e != api.OK {
			t.Fatal(e)
		}
		was := slices.Clone(first)
		other, _ := Keys(q, place, r)
		for i := range cap(first) {
			first[:cap(first)][i] = "over"
		}
		again, _ := Keys(q, place, r)
		if !slices.Equal(other, was) || !slices.Equal(again, was) {
			t.Errorf("%q, %q, not %q", other, again, was)
		}
	}
	if !slices.Equal(r.Cells[1].List, []string{"Z", "z", "y"}) {
		t.Errorf("%q", r.Cells[1].List)
	}
}

// What a row was is not kept: written over, it has other keys.
func TestNothingIsKept(t *testing.T) {
	q := made(t, "field a text", "field l list", "index id a unique", "index l l")
	r := row(text("A"), list("Z", "y"))
	hasKeys(t, q, 1, r, "\x01Z\x00\x01\x01A\x00\x01", "\x01y\x00\x01\x01A\x00\x01")
	r.Cells[0].Text, r.Cells[1].List[0] = "B", "y"
	hasKeys(t, q, 1, r, "\x01y\x00\x01\x01B\x00\x01")
}
