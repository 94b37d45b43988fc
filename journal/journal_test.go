package journal

import (
	"bytes"
	"math"
	"math/rand"
	"slices"
	"strconv"
	"testing"

	"muster/api"
)

// P13.5

func appends(t *testing.T, j *Journal, e api.Entry, want api.Errno) {
	t.Helper()
	if err := j.Append(e); err != want {
		t.Errorf("Append(%+v) behind %d: %d, not %d", e, j.Last(), err, want)
	}
}

// shows: does the journal show just these entries behind first?
func shows(t *testing.T, j *Journal, first uint64, entries []api.Entry) {
	t.Helper()
	last := first
	if len(entries) > 0 {
		last = entries[len(entries)-1].Index
	}
	if got := j.Last(); got != last {
		t.Fatalf("Last is %d, not %d", got, last)
	}
	many := uint64(len(entries))
	for _, index := range []uint64{0, 1, first - 2, first - 1, first, first + 1, first + 2, first + many/2, last - 1, last, last + 1, last + 2, math.MaxUint64 - 1, math.MaxUint64, 1 << 32, 1 << 63} {
		holdsSince(t, j, entries, index)
	}
}

func holdsSince(t *testing.T, j *Journal, entries []api.Entry, index uint64) {
	t.Helper()
	var want []api.Entry
	var wantBytes []byte
	for _, e := range entries {
		if e.Index > index {
			want = append(want, e)
			wantBytes = append(wantBytes, modelFrame(e)...)
		}
	}
	if got := j.Since(index); !sameEntries(got, want) {
		t.Fatalf("Since(%d) = %+v, not %+v", index, got, want)
	}
	if got := j.Bytes(index); !bytes.Equal(got, wantBytes) {
		t.Fatalf("Bytes(%d) = %v, not %v", index, got, wantBytes)
	}
}

func TestNew(t *testing.T) {
	for _, first := range []uint64{0, 1, 2, 1000, 1 << 32, math.MaxUint64 - 1, math.MaxUint64} {
		shows(t, New(first), first, nil)
	}
}

func TestAppend(t *testing.T) {
	for _, first := range []uint64{0, 1, 2, 1000, math.MaxUint64 - 9} {
		j := New(first)
		var all []api.Entry
		for i := uint64(1); i <= 9; i++ {
			for _, wrong := range []uint64{0, first, first + i - 1, first + i + 1, first + i + 256, first - i, math.MaxUint64} {
				if wrong != first+i {
					appends(t, j, entry(wrong, dropNode("a")), api.ErrGap)
				}
			}
			e := entry(first+i, slices.Repeat(kinds(), 4)[:i]...)
			appends(t, j, e, api.OK)
			all = append(all, e)
			shows(t, j, first, all)
		}
		if first == math.MaxUint64-9 {
			continue
		}
		appends(t, j, entry(first+11, dropNode("a")), api.ErrGap)
		appends(t, j, entry(first+10, dropNode("a")), api.OK)
	}
}

// ErrEntry is asked ahead of ErrGap; and neither uses the index.
func TestAppendErrors(t *testing.T) {
	j := New(4)
	for _, index := range []uint64{0, 4, 5, 6, math.MaxUint64} {
		appends(t, j, entry(index), api.ErrEntry)
		appends(t, j, entry(index, dropNode("A")), api.ErrEntry)
		appends(t, j, entry(index, slices.Repeat([]api.Op{dropNode("a")}, 65)...), api.ErrEntry)
		appends(t, j, entry(index, api.Op{}), api.ErrEntry)
		shows(t, j, 4, nil)
	}
	appends(t, j, entry(4, dropNode("a")), api.ErrGap)
	appends(t, j, entry(6, dropNode("a")), api.ErrGap)
	appends(t, j, entry(5, slices.Repeat([]api.Op{dropNode("a")}, 64)...), api.OK)
	shows(t, j, 4, []api.Entry{entry(5, slices.Repeat([]api.Op{dropNode("a")}, 64)...)})
}

// The greatest index has no next one.
func TestAppendAtTheEnd(t *testing.T) {
	j := New(math.MaxUint64)
	for _, index := range []uint64{0, 1, math.MaxUint64 - 1, math.MaxUint64} {
		appends(t, j, entry(index, dropNode("a")), api.ErrGap)
		appends(t, j, entry(index), api.ErrEntry)
	}
	shows(t, j, math.MaxUint64, nil)
	j = New(math.MaxUint64 - 1)
	last := entry(math.MaxUint64, dropNode("a"))
	appends(t, j, last, api.OK)
	for _, index := range []uint64{0, 1, math.MaxUint64 - 1, math.MaxUint64} {
		appends(t, j, entry(index, dropNode("a")), api.ErrGap)
	}
	shows(t, j, math.MaxUint64-1, []api.Entry{last})
}

// What is above the index, and nothing else.
func TestSinceAndBytes(t *testing.T) {
	j := New(1)
	a, b, c := entry(2, node("a", home)), entry(3, dropNode("a"), node("b", home)), entry(4, dropNode("b"))
	for _, e := range []api.Entry{a, b, c} {
		appends(t, j, e, api.OK)
	}
	for index, want := range [][]api.Entry{{a, b, c}, {a, b, c}, {b, c}, {c}, {}, {}} {
		if got := j.Since(uint64(index)); !sameEntries(got, want) {
			t.Errorf("Since(%d) = %+v", index, got)
		}
	}
	if got, want := j.Bytes(2), append(modelFrame(b), modelFrame(c)...); !bytes.Equal(got, want) {
		t.Errorf("%v, not %v", got, want)
	}
}

// The entry is kept as it was, whatever becomes of what was handed in; its texts too.
func TestAppendKeepsCopies(t *testing.T) {
	j := New(0)
	e := entry(1, kinds()...)
	want := copyEntry(e)
	appends(t, j, e, api.OK)
	scribble(e)
	text := []byte("abc")
	appends(t, j, entry(2, dropNode(looseText(text)), service("a", "i", "w", 1, looseText(text))), api.OK)
	scribbleBytes(text)
	shows(t, j, 0, []api.Entry{want, entry(2, dropNode("abc"), service("a", "i", "w", 1, "abc"))})
}

// Answers are new memory: of the journal, of each other, and of their own lists.
func TestAnswersAreNew(t *testing.T) {
	j := New(0)
	o := service("a", "i", "w", 1, "x", "y", "z")
	var all []api.Entry
	for index := uint64(1); index < 6; index++ {
		all = append(all, entry(index, o, o, o))
		appends(t, j, all[index-1], api.OK)
	}
	first, second := j.Since(0), j.Since(0)
	for _, e := range first {
		scribble(e)
	}
	for i := range first[:cap(first)] {
		first[:cap(first)][i] = entry(99)
	}
	if !sameEntries(second, all) {
		t.Errorf("%+v", second)
	}
	scribble(second[2])
	if !sameEntries(append(second[:2:2], second[3:]...), append(all[:2:2], all[3:]...)) {
		t.Errorf("%+v", second)
	}
	for index := range uint64(5) {
		scribbleBytes(j.Bytes(index))
	}
	shows(t, j, 0, all)
	// Behind an answer with spare room, too, the journal goes on.
	_ = append(j.Bytes(0), 1, 2, 3)
	_ = append(j.Since(0), entry(7))
	appends(t, j, entry(6, o), api.OK)
	shows(t, j, 0, append(all, entry(6, o)))
}

// What was answered stays as it is when the journal goes on.
func TestAnswersStay(t *testing.T) {
	j := New(0)
	appends(t, j, entry(1, dropNode("a")), api.OK)
	entries, b := j.Since(0), j.Bytes(0)
	for index := uint64(2); index < 20; index++ {
		appends(t, j, entry(index, dropNode("b")), api.OK)
	}
	if !sameEntries(entries, []api.Entry{entry(1, dropNode("a"))}) || !bytes.Equal(b, modelFrame(entry(1, dropNode("a")))) {
		t.Error(entries, b)
	}
}

func TestJournalsAreApart(t *testing.T) {
	a, b := New(1), New(1)
	appends(t, a, entry(2, dropNode("a")), api.OK)
	shows(t, b, 1, nil)
	appends(t, b, entry(2, dropNode("b")), api.OK)
	shows(t, a, 1, []api.Entry{entry(2, dropNode("a"))})
	shows(t, b, 1, []api.Entry{entry(2, dropNode("b"))})
}

// Random entries at right and wrong indexes, sound and not: held against a plain list.
func TestRandomJournals(t *testing.T) {
	for seed := range int64(20) {
		t.Run(strconv.FormatInt(seed, 10), func(t *testing.T) {
			rnd := rand.New(rand.NewSource(seed))
			first := randomIndex(rnd)
			j := New(first)
			var all []api.Entry
			for range 60 {
				last := first + uint64(len(all))
				e := randomEntry(rnd, pick(rnd, last+1, last+1, last+1, last, last+2, 0, randomIndex(rnd)))
				want := api.OK
				if rnd.Intn(10) == 0 {
					e.Ops[rnd.Intn(len(e.Ops))].Node.Made = 1
					want = api.ErrEntry
				} else if last == math.MaxUint64 || e.Index != last+1 {
					want = api.ErrGap
				}
				appends(t, j, e, want)
				if want == api.OK {
					all = append(all, e)
				}
				if got := j.Last(); got != first+uint64(len(all)) {
					t.Fatalf("Last is %d behind %d entries", got, len(all))
				}
				holdsSince(t, j, all, pick(rnd, last, last-1, first, first+uint64(rnd.Intn(5)), randomIndex(rnd)))
			}
			shows(t, j, first, all)
		})
	}
}
