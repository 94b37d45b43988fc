package sched

import (
	"slices"
	"testing"
)

// The section Examples.
func TestExamples(t *testing.T) {
	c := New([]int{3, 0}, 9)
	chooses(t, c, all("xx", 5), 1, 0, 1, 0, 1)
	if c.Left() != 0 {
		t.Error(c.Left())
	}
	chooses(t, New([]int{3, 0}, 1), all("xx", 2), 1, 0)
}

// P17.1
func TestNewAndLeft(t *testing.T) {
	for _, picks := range [][]int{nil, {}, {0}, {5, -5, leastInt, lastInt}} {
		c := New(picks, 100)
		if c == nil || c.Left() != len(picks) || c.Left() != len(picks) {
			t.Fatalf("%d picks of %v left", c.Left(), picks)
		}
		for i := range 6 {
			c.Next([]bool{true})
			if want := max(len(picks)-i-1, 0); c.Left() != want {
				t.Errorf("%d picks of %v left behind %d calls", c.Left(), picks, i+1)
			}
		}
	}
}

// P17.1: a bound below 1 counts as 1, and 2 is another one.
func TestSmallBounds(t *testing.T) {
	picks := []int{0, 0, 0, 0, 0, 0}
	for _, bound := range []int{leastInt, -1, 0, 1} {
		c := New(picks, bound)
		chooses(t, c, all("xx", 6), 0, 1, 0, 1, 0, 1)
		if c.Left() != 5 {
			t.Errorf("bound %d: %d picks left", bound, c.Left())
		}
	}
	c := New(picks, 2)
	chooses(t, c, all("xx", 6), 0, 0, 1, 0, 0, 1)
	if c.Left() != 2 {
		t.Errorf("%d picks left", c.Left())
	}
}

// P17.1: a bound as great as can be: the picks alone choose.
func TestGreatestBound(t *testing.T) {
	c := New(make([]int, 500), lastInt)
	chooses(t, c, all("xxx", 502), append(make([]int, 500), 1, 2)...)
}

// P17.1: the picks are those of the call: they may be written over behind it, and aren't written over themselves.
func TestPicksAreCopied(t *testing.T) {
	picks := []int{1, 2, 0, 7, 7}
	c := New(picks[:3], 9)
	for i := range picks {
		picks[i] = 0
	}
	chooses(t, c, all("xxx", 3), 1, 2, 0)
	if c.Left() != 0 || !slices.Equal(picks, make([]int, 5)) {
		t.Error(c.Left(), picks)
	}
	a, b := New(picks, 9), New(picks, 9)
	a.Next([]bool{true})
	if a.Left() != 4 || b.Left() != 5 {
		t.Error("two choosers share their picks", a.Left(), b.Left())
	}
}

// P17.2: none is ready.
func TestNobodyReady(t *testing.T) {
	c := New([]int{1, 1}, 3)
	for _, ready := range [][]bool{nil, {}, {false}, make([]bool, 1000)} {
		if i, ok := c.Next(ready); ok || i != 0 || c.Left() != 2 {
			t.Errorf("%d ready: %d, %v, %d picks left", len(ready), i, ok, c.Left())
		}
	}
	chooses(t, c, []string{"xx", "..", "xx", "", "xx"}, 1, -1, 1, -1, 0)
}

// P17.2: behind a call in which none is ready all ages are 0, but the one that was chosen last stays so.
func TestNobodyReadyEndsAges(t *testing.T) {
	for _, pause := range []string{"", ".", "...", "......"} {
		c := New([]int{2, 2, 2, 2, 2, 2}, 2)
		chooses(t, c, append(all("xxx", 2), pause), 2, 2, -1)
		// Without the pause 0 would be next.
		chooses(t, c, all("xxx", 3), 2, 2, 0)
		chooses(t, c, []string{pause, "xxx", pause}, -1, 2, -1)
		chooses(t, c, []string{pause, "xx.", pause, "xxx"}, -1, 0, -1, 1)
		c = New(nil, 9)
		chooses(t, c, []string{"xxx", "xxx", pause, "xxx", pause, "xxx", "xxx"}, 0, 1, -1, 2, -1, 0, 1)
	}
}

// P17.2, the first rule: the greatest age; of like ages the least number; ages beyond the bound too.
func TestOldestFirst(t *testing.T) {
	// 3 is ready first, then 1, then 0 and 2: they come in the order of their ages, though the picks say 4.
	c := New(slices.Repeat([]int{-1}, 9), 3)
	chooses(t, c, []string{"...xx", ".x.xx", "xxxxx", "xxxxx", "xxxxx", "xxxxx", "xxxxx"}, 4, 4, 4, 3, 1, 0, 2)
	if c.Left() != 6 {
		t.Errorf("%d picks left: the first rule uses none", c.Left())
	}
	// All are of one age: they come by their numbers, and the first one chosen is behind them again.
	c = New([]int{4, 4, 4}, 2)
	chooses(t, c, all("xxxxx", 9), 4, 4, 0, 1, 2, 3, 4, 0, 1)
	if c.Left() != 1 {
		t.Errorf("%d picks left", c.Left())
	}
}

// P17.2, the first rule: it speaks of actors that are ready now; an age as great as the bound is enough, one less isn't.
func TestBoundIsExact(t *testing.T) {
	for bound := 1; bound < 40; bound++ {
		c := New(make([]int, 100), bound)
		chooses(t, c, all("xx", bound), make([]int, bound)...)
		if c.Left() != 100-bound {
			t.Fatalf("bound %d: %d picks left", bound, c.Left())
		}
		chooses(t, c, []string{"xx"}, 1)
		// Now 1 is old, but isn't ready: its age is gone.
		c = New(make([]int, 100), bound)
		chooses(t, c, append(all("xx", bound), "x."), make([]int, bound+1)...)
		chooses(t, c, all("xx", bound), make([]int, bound)...)
		chooses(t, c, []string{"xx"}, 1)
	}
}

// P17.2: an actor that is not ready in one call is of age 0 behind it, also if it is not ready because the list is too short for it.
func TestAgeEnds(t *testing.T) {
	for _, gap := range []string{"x..", "x.", "x"} {
		c := New(make([]int, 9), 2)
		chooses(t, c, []string{"x.x", "x.x"}, 0, 0)
		chooses(t, c, []string{gap, "x.x", "x.x", "x.x"}, 0, 0, 0, 2)
	}
	// One that is chosen begins anew, whichever rule has chosen it.
	c := New([]int{1, 1, 0, 1, 1, 0}, 3)
	chooses(t, c, all("xx", 7), 1, 1, 0, 1, 1, 0, 1)
}

// P17.2, the second rule: the place p modulo n among those that are ready.
func TestPicks(t *testing.T) {
	for _, x := range []struct {
		pick int
		list string
		want int
	}{
		{0, "x", 0}, {7, "x", 0}, {-7, "x", 0}, {lastInt, "x", 0}, {leastInt, "x", 0},
		{0, "..x.x", 2}, {1, "..x.x", 4}, {2, "..x.x", 2}, {-1, "..x.x", 4}, {-2, "..x.x", 2}, {-3, "..x.x", 4},
		{0, "xxx", 0}, {1, "xxx", 1}, {2, "xxx", 2}, {3, "xxx", 0}, {-1, "xxx", 2}, {-2, "xxx", 1}, {-3, "xxx", 0}, {-4, "xxx", 2},
		{300000001, "xxx", 1}, {-300000001, "xxx", 2},
		// 2^63 - 1 is 1 modulo 3, 7 modulo 10; -2^63 is 1 modulo 3, 2 modulo 10.
		{lastInt, "xxx", 1}, {leastInt, "xxx", 1}, {lastInt, "xxxxxxxxxx", 7}, {leastInt, "xxxxxxxxxx", 2},
		{lastInt, ".x.x", 3}, {leastInt, ".x.x", 1}, {leastInt + 1, ".x.x", 3},
		{2, ".x.xx.", 4}, {3, ".x.xx.", 1},
	} {
		c := New([]int{x.pick, 5}, 9)
		chooses(t, c, []string{x.list}, x.want)
		if c.Left() != 1 {
			t.Errorf("%d picks left", c.Left())
		}
	}
	// Each pick is used once, in order, also where one alone is ready.
	c := New([]int{2, 1, 0, 1}, 9)
	chooses(t, c, []string{"xxx", "..x", "xxx", "xxx"}, 2, 2, 0, 1)
}

// P17.2, the third rule: round and round, from the one that was chosen last, whichever rule has chosen it.
func TestRoundAndRound(t *testing.T) {
	chooses(t, New(nil, 99), all("xxx", 7), 0, 1, 2, 0, 1, 2, 0)
	chooses(t, New(nil, 99), []string{".xx", ".xx", "xxx", "xxx", "x.x", "xx."}, 1, 2, 0, 1, 2, 0)
	// Behind the last of all comes the least, and one alone comes again.
	chooses(t, New(nil, 99), []string{"..x", "..x", "x.x", "x..", "x.."}, 2, 2, 0, 0, 0)
	// The one chosen last need not be in the list.
	chooses(t, New(nil, 99), []string{".....x", "xx", "xx", "xxxxxx"}, 5, 0, 1, 2)
	// Behind a pick, and behind one that was too old.
	chooses(t, New([]int{1}, 99), all("xxxx", 4), 1, 2, 3, 0)
	c := New([]int{3, 3}, 2)
	chooses(t, c, []string{"x..x", "x..x", "x..x", "xx.x", "xxxx"}, 3, 3, 0, 1, 3)
}

// Choosers are apart from one another.
func TestChoosersApart(t *testing.T) {
	a, b := New([]int{1}, 2), New([]int{1}, 2)
	chooses(t, a, all("xxx", 4), 1, 2, 0, 1)
	chooses(t, b, all("xxx", 4), 1, 2, 0, 1)
}

// Nothing is kept of lists but the ages of the last one's actors.
func TestKeepsLittle(t *testing.T) {
	c := New(nil, 9)
	c.Next(make([]bool, 100000))
	c.Next([]bool{true, true})
	if len(c.ages) != 2 || cap(c.ages) > 8 {
		t.Errorf("%d ages with room for %d", len(c.ages), cap(c.ages))
	}
}
