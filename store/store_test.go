package store

import (
	"math"
	"math/rand/v2"
	"slices"
	"strconv"
	"strings"
	"testing"
	"unsafe"

	"muster/api"
	"muster/rows"
	"muster/schema"
)

const chapter = "table q\nfield a text\nfield l list\nindex id a unique\nindex tag l loose\n"

// several: tables with names and fields alike, with all kinds of indexes.
const several = `table one
field a text
field n num
field l list
index id a,n unique
index num n
index any l,n unique lower loose
index own a lower

table two
field n num
field a text
index id n unique
index any a unique loose
table q
field a text
field l list
index id a unique lower
index tag l loose
index all l,a
`

func row(cells ...api.Cell) api.Row { return api.Row{Cells: cells} }

func text(s string) api.Cell { return api.Cell{Text: s} }

func num(n uint64) api.Cell { return api.Cell{Num: n} }

func list(elements ...string) api.Cell { return api.Cell{List: elements} }

func textParts(texts ...string) []api.Part {
	var parts []api.Part
	for _, s := range texts {
		parts = append(parts, api.Part{Kind: api.PartText, Text: s})
	}
	return parts
}

func numPart(n uint64) api.Part { return api.Part{Kind: api.PartNum, Num: n} }

// made: a store, and an open Write.
func made(t *testing.T, text string) (*Store, *Write) {
	t.Helper()
	s, line, e := New(text)
	if s == nil || line != 0 || e != api.OK {
		t.Fatalf("New(%q) = %v, %d, %d", text, s, line, e)
	}
	return s, begun(t, s)
}

func begun(t *testing.T, s *Store) *Write {
	t.Helper()
	w, e := s.Begin()
	if w == nil || e != api.OK {
		t.Fatalf("Begin = %v, %d", w, e)
	}
	return w
}

func committed(t *testing.T, w *Write) int {
	t.Helper()
	n, e := w.Commit()
	if e != api.OK {
		t.Fatalf("Commit: %d", e)
	}
	return n
}

// puts: puts all rows in.
func puts(t *testing.T, w *Write, table string, all ...api.Row) {
	t.Helper()
	for _, r := range all {
		if _, _, e := w.Put(table, r); e != api.OK {
			t.Fatalf("Put(%q, %v): %d", table, r, e)
		}
	}
}

// lists: does the view give those rows?
func lists(t *testing.T, v *View, table, index string, parts []api.Part, open bool, want ...api.Row) {
	t.Helper()
	if got, _, e := v.List(table, index, parts, open); !sameRows(got, want) || e != api.OK {
		t.Errorf("List(%q, %q, %v, %v) = %v, %d, not %v", table, index, parts, open, got, e, want)
	}
}

// refused: does Put answer that error alone, and change nothing?
func refused(t *testing.T, w *Write, table string, r api.Row, want api.Errno) {
	t.Helper()
	tree, touched := w.txn.Tree(), w.txn.Touched()
	if old, had, e := w.Put(table, r); len(old.Cells) != 0 || had || e != want {
		t.Errorf("Put(%q, %v) = %v, %v, %d, not %d", table, r, old, had, e, want)
	}
	if w.txn.Tree() != tree || !slices.Equal(w.txn.Touched(), touched) {
		t.Errorf("Put(%q, %v) has changed something beside %d", table, r, want)
	}
}

func TestNumbers(t *testing.T) {
	if api.ErrTable != 80 || api.ErrNoIndex != 81 || api.ErrUnique != 82 || api.ErrOpen != 50 || api.ErrOver != 51 {
		t.Error("the errors' numbers")
	}
}

func TestChapterExamples(t *testing.T) {
	s, w := made(t, chapter)
	first, second := row(text("n"), list("x", "y")), row(text("n"), list("y"))
	puts(t, w, "q", first)
	if touched := w.txn.Touched(); len(touched) != 3 {
		t.Errorf("touched: %q", touched)
	}
	lists(t, w.View(), "q", "tag", nil, false, first, first)
	committed(t, w)
	lists(t, s.View(), "q", "tag", nil, false, first, first)
	w = begun(t, s)
	if old, had, e := w.Put("q", second); !sameRow(old, first) || !had || e != api.OK {
		t.Errorf("Put = %v, %v, %d", old, had, e)
	}
	want := []string{"\x00\x00\x01n\x00\x01", "\x00\x01\x01x\x00\x01\x01n\x00\x01", "\x00\x01\x01y\x00\x01\x01n\x00\x01"}
	if touched := w.txn.Touched(); !slices.Equal(touched, want) {
		t.Errorf("touched: %q, not %q", touched, want)
	}
	committed(t, w)
	lists(t, s.View(), "q", "tag", nil, false, second)
}

func TestNew(t *testing.T) {
	for _, text := range []string{"", "\n\n", chapter, several} {
		s, w := made(t, text)
		v := s.View()
		if v.Version() != 0 || v.tree.Len() != 0 {
			t.Errorf("%q: a new store has version %d and %d entries", text, v.Version(), v.tree.Len())
		}
		if n, e := v.Count("nowhere"); n != 0 || e != api.ErrTable {
			t.Errorf("Count(nowhere) = %d, %d", n, e)
		}
		if e := w.Abort(); e != api.OK {
			t.Error(e)
		}
	}
	for _, text := range []string{"table a", "table a\n\nfield x int", "field x text", "rubbish", "table q\nfield a text\nindex id a\n", chapter + "table q", strings.Repeat("\n", 8193), "table a\ntable b"} {
		_, wantLine, wantE := schema.Parse(text)
		if s, line, e := New(text); s != nil || line != wantLine || e != wantE || e == api.OK {
			t.Errorf("New(%.40q) = %v, %d, %d, not %d, %d", text, s, line, e, wantLine, wantE)
		}
	}
}

func TestStoresShareNothing(t *testing.T) {
	a, w := made(t, chapter)
	b, other := made(t, chapter)
	_, heard, _ := b.View().List("q", "id", nil, false)
	puts(t, w, "q", row(text("n"), list("x")))
	committed(t, w)
	if a.View().Version() != 1 || b.View().Version() != 0 || heard.Fired() {
		t.Error("another store's commit is seen")
	}
	lists(t, b.View(), "q", "id", nil, false)
	puts(t, other, "q", row(text("m"), list()))
	committed(t, other)
	lists(t, b.View(), "q", "id", nil, false, row(text("m"), list()))
}

func TestVersionAndCount(t *testing.T) {
	s, w := made(t, several)
	count := func(v *View, one, two, q int) {
		t.Helper()
		for i, table := range []string{"one", "two", "q"} {
			if n, e := v.Count(table); n != []int{one, two, q}[i] || e != api.OK {
				t.Errorf("Count(%q) = %d, %d", table, n, e)
			}
		}
		for _, table := range []string{"", "Q", "on", "one ", "id"} {
			if n, e := v.Count(table); n != 0 || e != api.ErrTable {
				t.Errorf("Count(%q) = %d, %d", table, n, e)
			}
		}
	}
	empty := s.View()
	// Rows with several keys and with none in an index count once.
	puts(t, w, "q", row(text("a"), list("x", "y", "z")), row(text("b"), list("x")), row(text("A"), list("y", "z")))
	puts(t, w, "two", row(num(7), text("")))
	count(w.View(), 0, 1, 2)
	count(s.View(), 0, 0, 0)
	committed(t, w)
	full := s.View()
	count(full, 0, 1, 2)
	w = begun(t, s)
	if n, e := w.DropAll("q", "id", textParts("nobody")); n != 0 || e != api.OK {
		t.Errorf("DropAll = %d, %d", n, e)
	}
	if n := committed(t, w); n != 0 || s.View().Version() != 1 {
		t.Errorf("a commit of nothing fired %d watches, version %d", n, s.View().Version())
	}
	w = begun(t, s)
	w.DropAll("q", "id", nil)
	if v := w.View(); v.Version() != 1 {
		t.Errorf("the Write's version is %d", v.Version())
	}
	committed(t, w)
	count(s.View(), 0, 1, 0)
	count(full, 0, 1, 2)
	count(empty, 0, 0, 0)
	if s.View().Version() != 2 || full.Version() != 1 || empty.Version() != 0 {
		t.Error("the versions")
	}
}

func TestQueriesThatAreRefused(t *testing.T) {
	s, w := made(t, several)
	puts(t, w, "q", row(text("n"), list("x")))
	long := strings.Repeat("x", 1022)
	for _, c := range []struct {
		table, index string
		parts        []api.Part
		want         api.Errno
		wantOpen     api.Errno
	}{
		{"nowhere", "nothing", []api.Part{{}}, api.ErrTable, api.ErrTable},
		{"", "id", nil, api.ErrTable, api.ErrTable},
		{"Q", "id", nil, api.ErrTable, api.ErrTable},
		{"q", "nothing", []api.Part{{}}, api.ErrNoIndex, api.ErrNoIndex},
		{"q", "", nil, api.ErrNoIndex, api.ErrNoIndex},
		{"q", "num", nil, api.ErrNoIndex, api.ErrNoIndex},
		{"q", "a", nil, api.ErrNoIndex, api.ErrNoIndex},
		{"q", "id", textParts("n", "x"), api.ErrProbe, api.ErrProbe},
		// Not even with the parts that stand behind in its keys.
		{"q", "tag", textParts("x", "n"), api.ErrProbe, api.ErrProbe},
		{"q", "id", []api.Part{numPart(1)}, api.ErrProbe, api.ErrProbe},
		{"q", "id", []api.Part{{Kind: api.PartFlag, Num: 1}}, api.ErrProbe, api.ErrProbe},
		{"q", "id", []api.Part{{}}, api.ErrProbe, api.ErrProbe},
		{"q", "id", []api.Part{{Kind: api.PartText, Text: "n", Num: 1}}, api.ErrProbe, api.ErrProbe},
		{"one", "id", []api.Part{numPart(1), {Kind: api.PartText, Text: long}}, api.ErrProbe, api.ErrProbe},
		{"q", "id", textParts(long), api.ErrRowKey, api.OK},
		{"q", "id", textParts(long + "xx"), api.ErrRowKey, api.ErrRowKey},
		{"q", "id", textParts(long[1:]), api.OK, api.OK},
	} {
		for _, v := range []*View{s.View(), w.View()} {
			if r, ok, heard, e := v.First(c.table, c.index, c.parts); len(r.Cells) != 0 || ok || e != c.want || e != api.OK && heard != nil {
				t.Errorf("First(%q, %q, %.40v) = %v, %v, %v, %d", c.table, c.index, c.parts, r, ok, heard, e)
			}
			if l, heard, e := v.List(c.table, c.index, c.parts, false); len(l) != 0 || e != c.want || e != api.OK && heard != nil {
				t.Errorf("List(%q, %q, %.40v) = %v, %v, %d", c.table, c.index, c.parts, l, heard, e)
			}
			if l, heard, e := v.List(c.table, c.index, c.parts, true); len(l) != 0 || e != c.wantOpen || e != api.OK && heard != nil {
				t.Errorf("List(%q, %q, %.40v), open = %v, %v, %d", c.table, c.index, c.parts, l, heard, e)
			}
		}
		tree := w.txn.Tree()
		if n, e := w.DropAll(c.table, c.index, c.parts); n != 0 || e != c.want || w.txn.Tree() != tree {
			t.Errorf("DropAll(%q, %q, %.40v) = %d, %d", c.table, c.index, c.parts, n, e)
		}
	}
}

func TestOrderOfLists(t *testing.T) {
	_, w := made(t, several)
	a1, a0, b0 := row(text("a"), num(1), list("Y", "x")), row(text("a"), num(0), list("x")), row(text("B"), num(0), list())
	top := row(text("a\x00"), num(math.MaxUint64), list("xy"))
	puts(t, w, "one", a1, b0, top, a0)
	puts(t, w, "q", row(text("a"), list("x")))
	v := w.View()
	lists(t, v, "one", "id", nil, false, b0, a0, a1, top)
	lists(t, v, "one", "id", nil, true, b0, a0, a1, top)
	lists(t, v, "one", "id", textParts("a"), false, a0, a1)
	lists(t, v, "one", "id", textParts("a"), true, a0, a1, top)
	lists(t, v, "one", "id", append(textParts("a"), numPart(1)), true, a1)
	// Of one number: by the id.
	lists(t, v, "one", "num", nil, false, b0, a0, a1, top)
	lists(t, v, "one", "num", []api.Part{numPart(0)}, false, b0, a0)
	lists(t, v, "one", "any", nil, false, a0, a1, top, a1)
	lists(t, v, "one", "any", textParts("X"), false, a0, a1)
	lists(t, v, "one", "any", textParts("X"), true, a0, a1, top)
	lists(t, v, "one", "any", textParts(""), false)
	lists(t, v, "one", "any", textParts(""), true, a0, a1, top, a1)
	lists(t, v, "one", "own", nil, false, a0, a1, top, b0)
	lists(t, v, "one", "own", textParts("b"), false, b0)
	for _, c := range []struct {
		index string
		parts []api.Part
		want  api.Row
	}{
		{"id", nil, b0}, {"id", textParts("a"), a0}, {"id", append(textParts("a"), numPart(1)), a1},
		{"num", []api.Part{numPart(1)}, a1}, {"any", textParts("Y"), a1}, {"own", nil, a0},
	} {
		if r, ok, _, e := v.First("one", c.index, c.parts); !ok || e != api.OK || !sameRow(r, c.want) {
			t.Errorf("First(%q, %v) = %v, %v, %d", c.index, c.parts, r, ok, e)
		}
	}
	// First is never open.
	if r, ok, _, e := v.First("one", "any", textParts("xy"[:0])); ok || len(r.Cells) != 0 || e != api.OK {
		t.Errorf("First of an empty text = %v, %v, %d", r, ok, e)
	}
}

func TestWatches(t *testing.T) {
	s, w := made(t, several)
	puts(t, w, "two", row(num(1), text("a")), row(num(2), text("b")))
	puts(t, w, "one", row(text("a"), num(1), list("x")))
	committed(t, w)
	v := s.View()
	_, ok, one, _ := v.First("two", "any", textParts("a"))
	_, under, _ := v.List("two", "any", textParts("a"), false)
	if !ok || one != v.tree.Watch("\x01\x01\x01a\x00\x01") || under != v.tree.WatchUnder("\x01\x01\x01a\x00\x01") || one == under {
		t.Error("a unique index with all its parts: First watches the value, List the node")
	}
	_, ok, one, _ = v.First("two", "any", nil)
	if !ok || one != v.tree.WatchUnder("\x01\x01") {
		t.Error("a unique index without all its parts: First watches the node")
	}
	_, ok, one, _ = v.First("one", "own", textParts("A"))
	if !ok || one != v.tree.WatchUnder("\x00\x03\x01a\x00\x01") {
		t.Error("an index that isn't unique: First watches the node")
	}
	_, ok, one, _ = v.First("one", "id", textParts("a"))
	if !ok || one != v.tree.WatchUnder("\x00\x00\x01a\x00\x01") || one == v.tree.Watch("\x00\x00\x01a\x00\x01\x02\x00\x00\x00\x00\x00\x00\x00\x01") {
		t.Error("a unique index with some parts: First watches the node")
	}
	r, ok, none, e := v.First("two", "any", textParts("c"))
	if len(r.Cells) != 0 || ok || none == nil || e != api.OK || none != v.tree.WatchUnder("\x01\x01\x01") {
		t.Errorf("First of nothing = %v, %v, %v, %d", r, ok, none, e)
	}
	_, empty, _ := v.List("q", "tag", nil, false)
	w = begun(t, s)
	puts(t, w, "two", row(num(2), text("c")))
	if none.Fired() || empty.Fired() {
		t.Error("fired ahead of the commit")
	}
	committed(t, w)
	if !none.Fired() || empty != v.tree.WatchUnder("") || !empty.Fired() {
		t.Error("the commit isn't heard")
	}
}

func TestWatchOfTheOneRow(t *testing.T) {
	s, w := made(t, chapter)
	n, m := row(text("n"), list("x")), row(text("nn"), list("x"))
	puts(t, w, "q", n, m)
	committed(t, w)
	ask := func() (fired func() bool) {
		_, _, heard, e := s.View().First("q", "id", textParts("n"))
		if heard == nil || e != api.OK {
			t.Fatal(e)
		}
		return heard.Fired
	}
	do := func(what string, fires bool, step func(*Write)) {
		t.Helper()
		fired := ask()
		w := begun(t, s)
		step(w)
		committed(t, w)
		if fired() != fires {
			t.Errorf("%s: fired %v", what, fired())
		}
	}
	do("another row", false, func(w *Write) { puts(t, w, "q", row(text("nn"), list("y"))) })
	do("the row as it was", true, func(w *Write) { puts(t, w, "q", n) })
	do("another row goes", false, func(w *Write) { w.Drop("q", textParts("nn")) })
	do("the row goes", true, func(w *Write) { w.Drop("q", textParts("n")) })
	do("the row comes", true, func(w *Write) { puts(t, w, "q", n) })
	do("goes and comes", true, func(w *Write) { w.DropAll("q", "tag", nil); puts(t, w, "q", n) })
	do("nothing goes", false, func(w *Write) { w.Drop("q", textParts("nobody")) })
}

func TestAWritesViews(t *testing.T) {
	s, w := made(t, chapter)
	a, b, c := row(text("a"), list("x")), row(text("b"), list("x")), row(text("c"), list())
	puts(t, w, "q", a)
	committed(t, w)
	w = begun(t, s)
	start := w.View()
	puts(t, w, "q", b)
	middle := w.View()
	w.DropAll("q", "tag", nil)
	puts(t, w, "q", c)
	end := w.View()
	hold := func() {
		t.Helper()
		lists(t, start, "q", "id", nil, false, a)
		lists(t, middle, "q", "id", nil, false, a, b)
		lists(t, end, "q", "id", nil, false, c)
		for _, v := range []*View{start, middle, end} {
			if v.Version() != 1 {
				t.Errorf("version %d", v.Version())
			}
			for _, parts := range [][]api.Part{nil, textParts("a"), textParts("c")} {
				if _, _, heard, e := v.First("q", "id", parts); heard != nil || e != api.OK {
					t.Error("First of a Write's view answers a watch", e)
				}
				if _, heard, e := v.List("q", "id", parts, false); heard != nil || e != api.OK {
					t.Error("List of a Write's view answers a watch", e)
				}
			}
		}
	}
	hold()
	lists(t, s.View(), "q", "id", nil, false, a)
	committed(t, w)
	hold()
	lists(t, s.View(), "q", "id", nil, false, c)
	if s.View().Version() != 2 {
		t.Errorf("version %d", s.View().Version())
	}
	w = begun(t, s)
	w.Drop("q", textParts("c"))
	gone := w.View()
	if w.Abort() != api.OK {
		t.Error("Abort")
	}
	lists(t, gone, "q", "id", nil, false)
	lists(t, s.View(), "q", "id", nil, false, c)
	if gone.Version() != 2 || s.View().Version() != 2 {
		t.Error("the versions behind Abort")
	}
}

func TestPutsThatAreRefused(t *testing.T) {
	_, w := made(t, several)
	puts(t, w, "one", row(text("a"), num(1), list("X", "y")))
	puts(t, w, "two", row(num(1), text("a")), row(num(2), text("b")))
	long := text(strings.Repeat("x", 1024))
	refused(t, w, "nowhere", row(), api.ErrTable)
	refused(t, w, "One", row(text("a"), num(1), list()), api.ErrTable)
	refused(t, w, "", row(text("a"), num(1), list()), api.ErrTable)
	refused(t, w, "one", row(), api.ErrWide)
	refused(t, w, "one", row(text("a"), num(1)), api.ErrWide)
	refused(t, w, "one", row(num(1), text("a"), list()), api.ErrCell)
	refused(t, w, "one", row(text("b"), num(1), list(slices.Repeat([]string{"x"}, 33)...)), api.ErrList)
	refused(t, w, "one", row(text(""), num(1), list("x")), api.ErrMissing)
	refused(t, w, "q", row(text("a"), list()), api.ErrMissing)
	refused(t, w, "one", row(long, num(1), list("x")), api.ErrRowKey)
	// Fit's errors come ahead of ErrUnique.
	refused(t, w, "two", row(num(3), text("a"), num(1)), api.ErrWide)
	refused(t, w, "one", row(text("b"), num(1), list("x", strings.Repeat("z", 1024))), api.ErrRowKey)
	refused(t, w, "one", row(text("b"), num(1), list("x")), api.ErrUnique)
	refused(t, w, "one", row(text("b"), num(1), list("w", "Y", "z")), api.ErrUnique)
	refused(t, w, "two", row(num(3), text("a")), api.ErrUnique)
	// In the place of another row, too, and though that row has other keys in common with the new one.
	refused(t, w, "two", row(num(2), text("a")), api.ErrUnique)
	puts(t, w, "one", row(text("b"), num(2), list("x", "y")), row(text("b"), num(1), list("", "z")), row(text("a"), num(1), list("X", "y", "w")))
	refused(t, w, "one", row(text("b"), num(1), list("z", "W")), api.ErrUnique)
	// A table's keys are its own; and empty texts are no keys.
	puts(t, w, "q", row(text("a"), list("x")))
	puts(t, w, "two", row(num(3), text("")), row(num(4), text("")))
	// What a row gives up, another can have.
	puts(t, w, "two", row(num(2), text("c")), row(num(5), text("b")))
	w.Drop("two", []api.Part{numPart(1)})
	puts(t, w, "two", row(num(6), text("a")))
}

func TestPutTouches(t *testing.T) {
	id, tag := func(s string) string { return "\x00\x00\x01" + s + "\x00\x01" }, func(s, of string) string { return "\x00\x01\x01" + s + "\x00\x01\x01" + of + "\x00\x01" }
	for _, c := range []struct {
		old, new api.Row
		want     []string
	}{
		{row(text("n"), list("x")), row(text("n"), list("x")), []string{id("n"), tag("x", "n")}},
		{row(text("n"), list()), row(text("n"), list("x")), []string{id("n"), tag("x", "n")}},
		{row(text("n"), list("x")), row(text("n"), list()), []string{id("n"), tag("x", "n")}},
		{row(text("n"), list("x", "z")), row(text("n"), list("y", "z")), []string{id("n"), tag("x", "n"), tag("y", "n"), tag("z", "n")}},
		{row(text("n"), list("x")), row(text("m"), list("x", "x", "")), []string{id("m"), tag("x", "m")}},
	} {
		s, w := made(t, chapter)
		puts(t, w, "q", c.old)
		committed(t, w)
		w = begun(t, s)
		puts(t, w, "q", c.new)
		if got := w.txn.Touched(); !slices.Equal(got, c.want) {
			t.Errorf("%v in the place of %v touches %q", c.new, c.old, got)
		}
		if committed(t, w) == 0 || s.View().Version() != 2 {
			t.Errorf("%v in the place of %v: version %d", c.new, c.old, s.View().Version())
		}
	}
	// Case is nothing to an id that is lower: the row is the same one.
	_, w := made(t, several)
	puts(t, w, "q", row(text("N"), list("x")))
	if old, had, e := w.Put("q", row(text("n"), list("y"))); !sameRow(old, row(text("N"), list("x"))) || !had || e != api.OK {
		t.Errorf("Put = %v, %v, %d", old, had, e)
	}
	lists(t, w.View(), "q", "tag", nil, false, row(text("n"), list("y")))
}

func TestDrop(t *testing.T) {
	s, w := made(t, several)
	a, b := row(text("A"), list("x", "y")), row(text("b"), list("x"))
	puts(t, w, "q", a, b)
	puts(t, w, "one", row(text("a"), num(1), list()))
	committed(t, w)
	w = begun(t, s)
	long := strings.Repeat("x", 1022)
	for _, c := range []struct {
		table string
		parts []api.Part
		want  api.Errno
	}{
		{"nowhere", nil, api.ErrTable},
		{"Q", textParts("a"), api.ErrTable},
		{"q", nil, api.ErrProbe},
		{"q", textParts("a", "a"), api.ErrProbe},
		{"q", []api.Part{numPart(1)}, api.ErrProbe},
		{"q", []api.Part{{Kind: api.PartText, Text: "a", Num: 1}}, api.ErrProbe},
		{"one", textParts("a"), api.ErrProbe},
		{"one", textParts("a", "a"), api.ErrProbe},
		{"one", textParts(long), api.ErrProbe},
		{"one", append(textParts("a"), numPart(1), numPart(1)), api.ErrProbe},
		{"one", append(textParts(long), numPart(1)), api.ErrRowKey},
		{"q", textParts(long), api.ErrRowKey},
		{"q", textParts(long[1:]), api.OK},
		{"q", textParts(""), api.OK},
		{"one", append(textParts("a"), numPart(2)), api.OK},
		{"one", append(textParts("A"), numPart(1)), api.OK},
	} {
		tree := w.txn.Tree()
		if r, had, e := w.Drop(c.table, c.parts); len(r.Cells) != 0 || had || e != c.want || w.txn.Tree() != tree || len(w.txn.Touched()) != 0 {
			t.Errorf("Drop(%q, %.40v) = %v, %v, %d, not %d", c.table, c.parts, r, had, e, c.want)
		}
	}
	if r, had, e := w.Drop("q", textParts("a")); !sameRow(r, a) || !had || e != api.OK {
		t.Errorf("Drop = %v, %v, %d", r, had, e)
	}
	if got, want := w.txn.Touched(), newModel(s.schema).keysOf(2, a); !slices.Equal(got, want) || len(want) != 5 {
		t.Errorf("touched %q, not %q", got, want)
	}
	for _, index := range []string{"id", "tag", "all"} {
		lists(t, w.View(), "q", index, nil, false, b)
	}
	if r, had, e := w.Drop("q", textParts("a")); len(r.Cells) != 0 || had || e != api.OK {
		t.Errorf("Drop again = %v, %v, %d", r, had, e)
	}
	lists(t, w.View(), "one", "id", nil, false, row(text("a"), num(1), list()))
}

func TestDropAll(t *testing.T) {
	s, w := made(t, chapter)
	a, b, c, d := row(text("a"), list("x", "y")), row(text("b"), list("y", "xx")), row(text("c"), list()), row(text("d"), list("z", "x"))
	puts(t, w, "q", a, b, c, d)
	committed(t, w)
	for _, try := range []struct {
		index string
		parts []api.Part
		want  int
		left  []api.Row
	}{
		{"tag", nil, 3, []api.Row{c}},
		{"tag", textParts("x"), 2, []api.Row{b, c}},
		{"tag", textParts("y"), 2, []api.Row{c, d}},
		{"tag", textParts(""), 0, []api.Row{a, b, c, d}},
		{"id", nil, 4, nil},
		{"id", textParts("b"), 1, []api.Row{a, c, d}},
		{"id", textParts(""), 0, []api.Row{a, b, c, d}},
	} {
		w := begun(t, s)
		if n, e := w.DropAll("q", try.index, try.parts); n != try.want || e != api.OK {
			t.Errorf("DropAll(%q, %v) = %d, %d", try.index, try.parts, n, e)
		}
		lists(t, w.View(), "q", "id", nil, false, try.left...)
		if n, e := w.DropAll("q", try.index, try.parts); n != 0 || e != api.OK {
			t.Errorf("DropAll(%q, %v) again = %d, %d", try.index, try.parts, n, e)
		}
		if w.txn.Tree().Len() != len(newModelOf(s, try.left).entries()) {
			t.Errorf("DropAll(%q, %v) leaves entries of rows that are gone", try.index, try.parts)
		}
		w.Abort()
	}
}

// newModelOf: a model of the store's tables, with those rows in the first.
func newModelOf(s *Store, all []api.Row) *model {
	m := newModel(s.schema)
	m.rows[0] = all
	return m
}

func TestOneWriteAtATime(t *testing.T) {
	s, w := made(t, chapter)
	for range 3 {
		if other, e := s.Begin(); other != nil || e != api.ErrOpen {
			t.Errorf("Begin beside an open one = %v, %d", other, e)
		}
	}
	ended := w
	puts(t, w, "q", row(text("a"), list()))
	if ended.Abort() != api.OK {
		t.Error("Abort")
	}
	w = begun(t, s)
	puts(t, w, "q", row(text("b"), list()))
	// One that has ended ends no other.
	if n, e := ended.Commit(); n != 0 || e != api.ErrOver {
		t.Errorf("Commit behind the end = %d, %d", n, e)
	}
	if e := ended.Abort(); e != api.ErrOver {
		t.Errorf("Abort behind the end = %d", e)
	}
	if _, e := s.Begin(); e != api.ErrOpen {
		t.Errorf("Begin beside an open one = %d", e)
	}
	committed(t, w)
	lists(t, s.View(), "q", "id", nil, false, row(text("b"), list()))
	if committed(t, begun(t, s)) != 0 {
		t.Error("a commit of nothing fires")
	}
}

// scrawl: writes over all that a row has, spare room too.
func scrawl(r api.Row) {
	cells := r.Cells[:cap(r.Cells)]
	for i := range cells {
		elements := cells[i].List[:cap(cells[i].List)]
		for at := range elements {
			elements[at] = "scrawl"
		}
		cells[i] = api.Cell{Text: "scrawl", Num: 5}
	}
}

func TestRowsAreKeptAsTheyWere(t *testing.T) {
	s, w := made(t, several)
	whole := func() api.Row { return row(text("a"), num(1), list("x", "y")) }
	given := whole()
	given.Cells = append(make([]api.Cell, 0, 9), given.Cells...)
	given.Cells[2].List = append(make([]string, 0, 9), "x", "y")
	spare := given.Cells[:9]
	puts(t, w, "one", given)
	for i := 3; i < 9; i++ {
		if spare[i].Text != "" || spare[i].List != nil {
			t.Error("Put writes into spare room")
		}
	}
	scrawl(given)
	hold := func(v *View) {
		t.Helper()
		lists(t, v, "one", "id", nil, false, whole())
		lists(t, v, "one", "any", nil, false, whole(), whole())
	}
	hold(w.View())
	committed(t, w)
	v := s.View()
	for range 2 {
		r, _, _, _ := v.First("one", "id", nil)
		scrawl(r)
		hold(v)
		twice, _, _ := v.List("one", "any", nil, false)
		scrawl(twice[0])
		if !sameRow(twice[1], whole()) {
			t.Error("two rows of one list share memory")
		}
		hold(v)
	}
	w = begun(t, s)
	old, _, _ := w.Put("one", whole())
	scrawl(old)
	hold(w.View())
	hold(v)
	again, had, e := w.Put("one", whole())
	if !sameRow(again, whole()) || !had || e != api.OK {
		t.Errorf("Put = %v, %v, %d", again, had, e)
	}
	inner := w.View()
	gone, _, _ := w.Drop("one", append(textParts("a"), numPart(1)))
	scrawl(gone)
	hold(inner)
	hold(v)
	hold(s.View())
}

// Not even the texts themselves are kept.
func TestTextsAreCopied(t *testing.T) {
	room := []byte(chapter)
	s, _, e := New(unsafe.String(&room[0], len(room)))
	if e != api.OK {
		t.Fatal(e)
	}
	clear(room)
	w := begun(t, s)
	room = []byte("nx")
	name, element := unsafe.String(&room[0], 1), unsafe.String(&room[1], 1)
	puts(t, w, "q", row(text(name), list(element)))
	clear(room)
	want := row(text("n"), list("x"))
	lists(t, w.View(), "q", "id", textParts("n"), false, want)
	committed(t, w)
	lists(t, s.View(), "q", "tag", textParts("x"), false, want)
	r, _, _, _ := s.View().First("q", "id", nil)
	copy(unsafe.Slice(unsafe.StringData(r.Cells[0].Text), 1), "m")
	copy(unsafe.Slice(unsafe.StringData(r.Cells[1].List[0]), 1), "m")
	lists(t, s.View(), "q", "id", nil, false, want)
}

// As many tables, fields, indexes and elements as there may be, and keys as long as they may be.
func TestLimits(t *testing.T) {
	var lines strings.Builder
	for i := range api.MaxTables {
		lines.WriteString("table t" + strconv.Itoa(i) + "\n")
		for f := range api.MaxFields {
			lines.WriteString("field f" + strconv.Itoa(f) + []string{" text\n", " list\n"}[f%2])
		}
		lines.WriteString("index id f0 unique\n")
		for x := 1; x < api.MaxIndexes; x++ {
			lines.WriteString("index x" + strconv.Itoa(x) + " f" + strconv.Itoa(x) + " loose\n")
		}
	}
	s, w := made(t, lines.String())
	var elements []string
	for i := range api.MaxList {
		elements = append(elements, strings.Repeat("e", 10)+strconv.Itoa(100+i))
	}
	var cells []api.Cell
	for f := range api.MaxFields {
		if f%2 == 1 {
			cells = append(cells, list(elements...))
		} else {
			cells = append(cells, text(strconv.Itoa(f)))
		}
	}
	full := row(cells...)
	longest := cloneRow(full)
	for f := range longest.Cells {
		longest.Cells[f] = api.Cell{}
	}
	longest.Cells[0].Text = strings.Repeat("x", api.MaxKey-3)
	for i := range api.MaxTables {
		puts(t, w, "t"+strconv.Itoa(i), full, longest)
	}
	committed(t, w)
	// The id's entry, one for each of the lists' 32 elements in four indexes, one for each of three texts; and the other row's one.
	if n := s.View().tree.Len(); n != api.MaxTables*(1+4*32+3+1) {
		t.Errorf("%d entries", n)
	}
	for i := range api.MaxTables {
		lists(t, s.View(), "t"+strconv.Itoa(i), "id", nil, false, full, longest)
		lists(t, s.View(), "t"+strconv.Itoa(i), "x7", nil, false, slices.Repeat([]api.Row{full}, 32)...)
	}
	w = begun(t, s)
	if n, e := w.DropAll("t15", "x7", nil); n != 1 || e != api.OK {
		t.Errorf("DropAll = %d, %d", n, e)
	}
	if r, had, e := w.Drop("t14", textParts(longest.Cells[0].Text)); !had || e != api.OK || !sameRow(r, longest) {
		t.Errorf("Drop = %v, %d", had, e)
	}
	committed(t, w)
	lists(t, s.View(), "t15", "id", nil, false, longest)
	lists(t, s.View(), "t14", "id", nil, false, full)
	lists(t, s.View(), "t13", "id", nil, false, full, longest)
}

// chance makes rows and queries of few values, so that they meet.
type chance struct{ *rand.Rand }

func (c chance) text() string {
	return []string{"a", "A", "ab", "b", "a\x00", "Ab", ""}[c.IntN(7)]
}

func (c chance) num() uint64 { return []uint64{0, 1, math.MaxUint64}[c.IntN(3)] }

func (c chance) cell(kind int) api.Cell {
	switch kind {
	case api.FieldText:
		return text(c.text())
	case api.FieldNum:
		return num(c.num())
	}
	var elements []string
	for range c.IntN(4) {
		elements = append(elements, c.text())
	}
	return list(elements...)
}

// row: one that may fit; at times one that can't.
func (c chance) row(t api.Table) api.Row {
	var r api.Row
	for _, f := range t.Fields {
		r.Cells = append(r.Cells, c.cell(f.Kind))
	}
	at := c.IntN(len(r.Cells))
	switch c.IntN(40) {
	case 0:
		r.Cells = r.Cells[:at]
	case 1:
		r.Cells[at] = c.cell(1 + c.IntN(3))
	case 2:
		r.Cells[at].Text = strings.Repeat("a", 1024)
	case 3:
		r.Cells[at].List = slices.Repeat([]string{"a"}, 33)
	}
	return r
}

func (c chance) parts(t api.Table, x api.Index) []api.Part {
	var parts []api.Part
	for _, place := range x.Over[:c.IntN(len(x.Over)+1)] {
		if t.Fields[place].Kind == api.FieldNum {
			parts = append(parts, numPart(c.num()))
		} else {
			parts = append(parts, textParts(c.text())...)
		}
	}
	switch c.IntN(30) {
	case 0:
		parts = append(parts, numPart(1))
	case 1:
		parts = append(parts, textParts("a")...)
	case 2:
		parts = append(parts, api.Part{Kind: api.PartText, Num: 1})
	}
	return parts
}

func (c chance) ask(s api.Schema) ask {
	t := s.Tables[c.IntN(len(s.Tables))]
	x := t.Indexes[c.IntN(len(t.Indexes))]
	a := ask{t.Name, x.Name, c.parts(t, x), c.IntN(2) == 0}
	switch c.IntN(30) {
	case 0:
		a.table = "nowhere"
	case 1:
		a.index = "nothing"
	}
	return a
}

// step: one call of the Write and of the model.
func (c chance) step(r *trial, w *Write, own *model) {
	r.Helper()
	a := c.ask(own.schema)
	t := own.schema.Tables[c.IntN(len(own.schema.Tables))]
	name := t.Name
	if c.IntN(30) == 0 {
		name = "nowhere"
	}
	switch c.IntN(8) {
	case 0:
		r.dropAll(w, own, a)
	case 1:
		r.drop(w, own, name, c.parts(t, t.Indexes[0]))
	case 2:
		at := own.tableAt(t.Name)
		if list := own.rows[at]; len(list) > 0 {
			r.drop(w, own, name, idParts(t, list[c.IntN(len(list))]))
		}
	default:
		r.put(w, own, name, c.row(t))
	}
}

// idParts: the parts of the row's id key, as they stand in the row.
func idParts(t api.Table, r api.Row) []api.Part {
	var parts []api.Part
	for _, place := range t.Indexes[0].Over {
		if t.Fields[place].Kind == api.FieldNum {
			parts = append(parts, numPart(r.Cells[place].Num))
		} else {
			parts = append(parts, textParts(r.Cells[place].Text)...)
		}
	}
	return parts
}

func TestAgainstTheModel(t *testing.T) {
	lower := strings.Replace(chapter, "unique", "unique lower", 1)
	for seed := range uint64(150) {
		c := chance{rand.New(rand.NewPCG(8, seed))}
		text := []string{several, chapter, lower}[seed%3]
		made, _, _ := schema.Parse(text)
		var asks []ask
		for range 12 {
			asks = append(asks, c.ask(made))
		}
		r := newTrial(t, text, asks)
		r.hold()
		for range 12 {
			w, own := r.begin()
			for range c.IntN(8) {
				c.step(r, w, own)
				r.holdOwn(w, own, []ask{c.ask(made)})
			}
			r.holdOwn(w, own, r.asks)
			if c.IntN(4) == 0 {
				r.abort(w)
				continue
			}
			r.commit(w, own)
			r.hold()
		}
		r.holdHeld()
	}
}

// An error of layer 7 that could only come from a row that was put in would be lost: there is none.
func TestAllRowsOfATableFit(t *testing.T) {
	c := chance{rand.New(rand.NewPCG(8, 1000))}
	s, w := made(t, several)
	fit := 0
	for range 2000 {
		at := c.IntN(len(s.schema.Tables))
		q := s.schema.Tables[at]
		r := c.row(q)
		_, _, e := w.Put(q.Name, r)
		if want := rows.Fit(q, r); e != want && (want != api.OK || e != api.ErrUnique) {
			t.Errorf("Put(%q, %v) = %d, not %d", q.Name, r, e, want)
		}
		if e == api.OK {
			fit++
		}
	}
	if fit < 200 {
		t.Errorf("%d rows fit", fit)
	}
}
