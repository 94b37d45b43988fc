package timers

import (
	"slices"
	"testing"

	"muster/api"
)

// fires: Advance answers just these ids.
func fires(t *testing.T, w *Wheel, now uint64, want ...int) {
	t.Helper()
	got, err := w.Advance(now)
	if err != api.OK || !slices.Equal(got, want) || w.Now() != now {
		t.Errorf("Advance(%d): %v, %d, clock %d, not %v", now, got, err, w.Now(), want)
	}
}

// refusesPast: Advance answers ErrPast and no ids, and the wheel is as it was.
func refusesPast(t *testing.T, w *Wheel, now uint64) {
	t.Helper()
	clock, count := w.Now(), w.Len()
	got, err := w.Advance(now)
	if err != api.ErrPast || len(got) != 0 || w.Now() != clock || w.Len() != count {
		t.Errorf("Advance(%d): %v, %d, clock %d, %d pending", now, got, err, w.Now(), w.Len())
	}
}

func sets(t *testing.T, w *Wheel, id int, at uint64, want api.Errno) {
	t.Helper()
	if got := w.Set(id, at); got != want {
		t.Errorf("Set(%d, %d): %d, not %d", id, at, got, want)
	}
}

func next(t *testing.T, w *Wheel, want uint64, wantOk bool) {
	t.Helper()
	if got, ok := w.Next(); got != want || ok != wantOk {
		t.Errorf("Next: %d, %v, not %d, %v", got, ok, want, wantOk)
	}
}

// The section Errors.
func TestErrorNumbers(t *testing.T) {
	for _, c := range []struct{ got, want int }{
		{int(api.ErrTimers), 140}, {int(api.ErrTimerTwice), 141}, {int(api.ErrPast), 142},
	} {
		if c.got != c.want {
			t.Errorf("%d, not %d", c.got, c.want)
		}
	}
	w := New(1)
	w.Set(1, 9)
	if e := w.Set(1, 9); e != 141 {
		t.Error(e)
	}
	if e := w.Set(2, 9); e != 140 {
		t.Error(e)
	}
	w.Advance(1)
	if _, e := w.Advance(0); e != 142 {
		t.Error(e)
	}
}

// The section Examples.
func TestExample(t *testing.T) {
	w := New(3)
	sets(t, w, 1, 5, api.OK)
	sets(t, w, 2, 3, api.OK)
	sets(t, w, 3, 5, api.OK)
	next(t, w, 3, true)
	fires(t, w, 4, 2)
	fires(t, w, 9, 1, 3)
}

// P14.1
func TestNew(t *testing.T) {
	for _, most := range []int{leastInt, -1, 0, 1, 2, lastInt} {
		w := New(most)
		if w == nil || w.Now() != 0 || w.Len() != 0 {
			t.Fatalf("New(%d): %+v", most, w)
		}
		next(t, w, 0, false)
		if w.Stop(0) {
			t.Errorf("New(%d) has a timer", most)
		}
		fires(t, w, 0)
		for i := range 3 {
			want := api.OK
			if i >= most {
				want = api.ErrTimers
			}
			sets(t, w, i, 7, want)
			if got := w.Len(); got != min(i+1, max(most, 0)) {
				t.Errorf("New(%d): %d pending", most, got)
			}
		}
	}
}

// P14.1: a wheel of room 0 has a clock all the same.
func TestNoRoom(t *testing.T) {
	w := New(-5)
	sets(t, w, 1, 0, api.ErrTimers)
	fires(t, w, 8)
	sets(t, w, 1, 0, api.ErrTimers)
	refusesPast(t, w, 7)
	next(t, w, 0, false)
}

// P14.1: each wheel has a clock and timers of its own.
func TestWheelsApart(t *testing.T) {
	a, b := New(1), New(1)
	sets(t, a, 1, 5, api.OK)
	sets(t, b, 1, 6, api.OK)
	fires(t, a, 9, 1)
	if b.Now() != 0 || b.Len() != 1 {
		t.Error(b.Now(), b.Len())
	}
	next(t, b, 6, true)
	sets(t, b, 2, 6, api.ErrTimers)
	fires(t, b, 6, 1)
}

// P14.2: any number is an id, any time a time.
func TestSetAnything(t *testing.T) {
	ids := []int{0, -1, 1, leastInt, lastInt, 77}
	for _, at := range []uint64{0, 1, 1<<63 - 1, 1 << 63, lastTime} {
		w := New(len(ids))
		for i, id := range ids {
			sets(t, w, id, at, api.OK)
			sets(t, w, id, at, api.ErrTimerTwice)
			if w.Len() != i+1 {
				t.Error(w.Len())
			}
			next(t, w, at, true)
		}
		if at > 0 {
			fires(t, w, at-1)
		}
		fires(t, w, at, ids...)
		next(t, w, 0, false)
	}
}

// P14.2: a time that is past is set as any other; the clock need not move for it to fire.
func TestSetPast(t *testing.T) {
	w := New(9)
	fires(t, w, 100)
	sets(t, w, 1, 100, api.OK)
	sets(t, w, 2, 99, api.OK)
	sets(t, w, 3, 0, api.OK)
	sets(t, w, 4, 101, api.OK)
	if w.Len() != 4 || w.Now() != 100 {
		t.Error(w.Len(), w.Now())
	}
	next(t, w, 0, true)
	fires(t, w, 100, 3, 2, 1)
	next(t, w, 101, true)
	fires(t, w, 100)
	fires(t, w, 101, 4)
}

// P14.2: ErrTimerTwice goes ahead of ErrTimers.
func TestSetErrorOrder(t *testing.T) {
	w := New(1)
	sets(t, w, 1, 5, api.OK)
	sets(t, w, 1, 5, api.ErrTimerTwice)
	sets(t, w, 1, 6, api.ErrTimerTwice)
	sets(t, w, 2, 5, api.ErrTimers)
	next(t, w, 5, true)
	fires(t, w, 5, 1)
}

// P14.2: a Set that is refused changes nothing: no time, no turn, no room.
func TestSetRefusedChangesNothing(t *testing.T) {
	w := New(3)
	sets(t, w, 1, 5, api.OK)
	sets(t, w, 2, 5, api.OK)
	sets(t, w, 1, 5, api.ErrTimerTwice) // it would be behind 2
	sets(t, w, 2, 4, api.ErrTimerTwice) // it would be ahead of 1
	sets(t, w, 3, 5, api.OK)
	sets(t, w, 4, 1, api.ErrTimers)
	if w.Stop(4) || w.Len() != 3 {
		t.Error("4 is pending")
	}
	next(t, w, 5, true)
	fires(t, w, 4)
	fires(t, w, 5, 1, 2, 3)
	sets(t, w, 4, 1, api.OK)
	fires(t, w, 5, 4)
}

// P14.2: an id that has fired or was stopped may be set again, and its room is free.
func TestSetAgain(t *testing.T) {
	w := New(2)
	for round := range uint64(5) {
		sets(t, w, 1, 10*round+3, api.OK)
		sets(t, w, 2, 10*round+3, api.OK)
		if !w.Stop(1) {
			t.Error("1 isn't pending")
		}
		// Behind 2 now: it was set anew.
		sets(t, w, 1, 10*round+3, api.OK)
		sets(t, w, 3, 0, api.ErrTimers)
		fires(t, w, 10*round+3, 2, 1)
		if w.Len() != 0 {
			t.Error(w.Len())
		}
	}
}

// P14.3
func TestStop(t *testing.T) {
	w := New(5)
	if w.Stop(1) {
		t.Error("nothing was pending")
	}
	sets(t, w, 1, 5, api.OK)
	sets(t, w, 2, 3, api.OK)
	if w.Stop(3) || w.Len() != 2 {
		t.Error("3 was not pending")
	}
	if !w.Stop(2) || w.Len() != 1 {
		t.Error("2 was pending")
	}
	if w.Stop(2) || w.Len() != 1 {
		t.Error("2 was stopped")
	}
	next(t, w, 5, true)
	fires(t, w, 5, 1)
	if w.Stop(1) || w.Len() != 0 || w.Now() != 5 {
		t.Error("1 has fired")
	}
	// One whose time is past, but which has not fired, is pending.
	sets(t, w, 1, 2, api.OK)
	if !w.Stop(1) {
		t.Error("1 was pending")
	}
	fires(t, w, 5)
}

// P14.3: whichever is stopped, the others fire as ever.
func TestStopEachPlace(t *testing.T) {
	times := []uint64{4, 9, 2, 2, 7, 9, 0, 4, 4, 1, 8, 2, 5}
	for id := range times {
		for other := range times {
			r := newTrial(t, len(times))
			for i, at := range times {
				r.set(i, at)
			}
			r.stop(id)
			r.stop(other)
			r.set(id, 4)
			for now := range uint64(11) {
				r.advance(now)
			}
			r.end()
		}
	}
}

// P14.4
func TestNext(t *testing.T) {
	w := New(9)
	next(t, w, 0, false)
	sets(t, w, 1, 0, api.OK)
	next(t, w, 0, true)
	fires(t, w, 6, 1)
	next(t, w, 0, false)
	sets(t, w, 1, lastTime, api.OK)
	next(t, w, lastTime, true)
	sets(t, w, 2, 8, api.OK)
	next(t, w, 8, true)
	sets(t, w, 3, 9, api.OK)
	next(t, w, 8, true)
	sets(t, w, 4, 3, api.OK) // ahead of the clock's
	next(t, w, 3, true)
	w.Stop(4)
	next(t, w, 8, true)
	next(t, w, 8, true)
	if w.Len() != 3 {
		t.Error("Next takes nothing out", w.Len())
	}
	w.Stop(3)
	next(t, w, 8, true)
	fires(t, w, 8, 2)
	next(t, w, lastTime, true)
	w.Stop(1)
	next(t, w, 0, false)
}

// P14.5: the lesser time first, of like times the one that was set first, whatever the ids.
func TestAdvanceOrder(t *testing.T) {
	w := New(20)
	for i, at := range []uint64{5, 3, 5, 1, 3, 5, 6, 3} {
		sets(t, w, 100-i, at, api.OK)
	}
	fires(t, w, 0)
	fires(t, w, 5, 97, 99, 96, 93, 100, 98, 95)
	if w.Len() != 1 {
		t.Error(w.Len())
	}
	fires(t, w, 5)
	fires(t, w, 6, 94)
}

// P14.5: many of one time fire in the order in which they were set, though others went meanwhile.
func TestAdvanceLikeTimes(t *testing.T) {
	const many = 500
	w := New(many)
	var want []int
	for i := range many {
		id := i * 7919 % many
		sets(t, w, id, 50, api.OK)
		want = append(want, id)
	}
	for i := range many / 2 {
		id := i * 2
		w.Stop(id)
		want = slices.DeleteFunc(want, func(o int) bool { return o == id })
	}
	for i := range many / 2 {
		sets(t, w, i*2, 50, api.OK)
		want = append(want, i*2)
	}
	fires(t, w, 49)
	fires(t, w, 50, want...)
}

// P14.5: a time below the clock's is refused, and nothing is changed; the clock's own is right.
func TestAdvancePast(t *testing.T) {
	w := New(3)
	fires(t, w, 0)
	fires(t, w, 10)
	sets(t, w, 1, 4, api.OK)
	sets(t, w, 2, 12, api.OK)
	for _, now := range []uint64{0, 4, 9} {
		refusesPast(t, w, now)
		next(t, w, 4, true)
	}
	fires(t, w, 10, 1)
	fires(t, w, 10)
	fires(t, w, lastTime, 2)
	for _, now := range []uint64{0, 12, lastTime - 1} {
		refusesPast(t, w, now)
	}
	fires(t, w, lastTime)
	sets(t, w, 3, lastTime, api.OK)
	fires(t, w, lastTime, 3)
}

// P14.5: the clock is put to now, not to a timer's time, also if nothing fires.
func TestAdvanceClock(t *testing.T) {
	w := New(3)
	sets(t, w, 1, 5, api.OK)
	for _, now := range []uint64{0, 1, 4} {
		fires(t, w, now)
	}
	fires(t, w, 8, 1)
	refusesPast(t, w, 7)
	fires(t, w, 1000)
}

// Answers are new memory: what one holds is not seen by a later call, nor changed by it.
func TestAnswersAreNew(t *testing.T) {
	w := New(8)
	for id := range 8 {
		sets(t, w, id, uint64(id/4), api.OK)
	}
	first, _ := w.Advance(0)
	kept := slices.Clone(first)
	for id := range 3 {
		sets(t, w, id, 1, api.OK)
	}
	second, _ := w.Advance(1)
	if !slices.Equal(first, kept) || !slices.Equal(second, []int{4, 5, 6, 7, 0, 1, 2}) {
		t.Error(first, second)
	}
	scribble(first)
	if !slices.Equal(second, []int{4, 5, 6, 7, 0, 1, 2}) {
		t.Error(second)
	}
	scribble(second)
	sets(t, w, 9, 2, api.OK)
	fires(t, w, 2, 9)
}

// P14.6
func TestAfter(t *testing.T) {
	for _, c := range []struct{ now, wait, want uint64 }{
		{0, 0, 0}, {5, 6, 11}, {6, 5, 11}, {0, 7, 7}, {7, 0, 7},
		{0, lastTime, lastTime}, {lastTime, 0, lastTime}, {1, lastTime, lastTime}, {lastTime, 1, lastTime},
		{lastTime, lastTime, lastTime}, {5, lastTime, lastTime},
		{lastTime - 1, 1, lastTime}, {lastTime - 2, 1, lastTime - 1}, {lastTime - 1, 2, lastTime}, {1, lastTime - 2, lastTime - 1},
		{1 << 63, 1<<63 - 1, lastTime}, {1 << 63, 1 << 63, lastTime}, {1 << 63, 1<<63 - 2, lastTime - 1}, {1<<63 - 1, 1<<63 - 1, lastTime - 1},
	} {
		if got := After(c.now, c.wait); got != c.want {
			t.Errorf("After(%d, %d): %d, not %d", c.now, c.wait, got, c.want)
		}
	}
}
