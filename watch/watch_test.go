package watch

import (
	"fmt"
	"math"
	"runtime"
	"slices"
	"sync"
	"testing"
	"testing/synctest"

	"muster/api"
)

func TestNumbers(t *testing.T) {
	if api.ErrCrowd != 20 || api.MaxVigil != 64 {
		t.Errorf("ErrCrowd %d, MaxVigil %d", api.ErrCrowd, api.MaxVigil)
	}
}

// P2.1

func TestFire(t *testing.T) {
	w := New()
	for range 3 {
		if w.Fired() {
			t.Fatal("a new watch is fired, or asking fires it")
		}
	}
	if !w.Fire() {
		t.Error("the first Fire: false")
	}
	for range 3 {
		if !w.Fired() {
			t.Error("a fired watch isn't fired any more")
		}
		if w.Fire() {
			t.Error("a later Fire: true")
		}
	}
}

func TestWatchesAreTheirOwn(t *testing.T) {
	const many = 100
	watches := make([]*Watch, many)
	for i := range watches {
		watches[i] = New()
		if slices.Contains(watches[:i], watches[i]) {
			t.Fatalf("watch %d was made before", i)
		}
	}
	for i, w := range watches {
		if !w.Fire() {
			t.Errorf("watch %d was fired with another", i)
		}
		for j, other := range watches {
			if other.Fired() != (j <= i) {
				t.Fatalf("watches 0 to %d are fired, but Fired of watch %d is %v", i, j, other.Fired())
			}
		}
	}
}

func TestOneOfManyFires(t *testing.T) {
	for range 100 {
		w := New()
		var firsts [8]bool
		var firing sync.WaitGroup
		for i := range firsts {
			firing.Go(func() { firsts[i] = w.Fire() && w.Fired() })
		}
		firing.Wait()
		count := 0
		for _, first := range firsts {
			if first {
				count++
			}
		}
		if count != 1 || !w.Fired() {
			t.Fatalf("%d goroutines fired one watch; Fired %v", count, w.Fired())
		}
	}
}

// P2.2

func TestSet(t *testing.T) {
	a, b := New(), New()
	s := NewSet(1)
	if s.Len() != 0 || s.First() != -1 {
		t.Errorf("a new set: Len %d, First %d", s.Len(), s.First())
	}
	if !s.Add(a) || !s.Add(a) || s.Add(b) || s.Add(nil) || s.Len() != 1 {
		t.Error("a set of most 1")
	}
	if b.Fire(); s.First() != -1 {
		t.Error("a watch that the set doesn't hold is its first")
	}
	if a.Fire(); s.First() != 0 {
		t.Error("the set doesn't see its watch fired")
	}
}

func TestSetsMost(t *testing.T) {
	for most, room := range map[int]int{math.MinInt: 0, -2: 0, -1: 0, 0: 0, 1: 1, 2: 2, 3: 3, 100: 100} {
		s := NewSet(most)
		for i := range room {
			if !s.Add(New()) {
				t.Fatalf("most %d: no room for watch %d", most, i)
			}
		}
		if s.Add(New()) || s.Add(nil) || s.Len() != room {
			t.Errorf("most %d: more than %d watches, Len %d", most, room, s.Len())
		}
	}
	s := NewSet(math.MaxInt)
	if !s.Add(New()) || !s.Add(New()) || s.Len() != 2 {
		t.Error("a set without an end")
	}
}

func TestFiredWatchIsAdded(t *testing.T) {
	a, b := New(), New()
	b.Fire()
	s := NewSet(2)
	if !s.Add(a) || !s.Add(b) || s.Len() != 2 || s.First() != 1 {
		t.Error("a fired watch behind one that isn't fired")
	}
	if a.Fired() || !b.Fired() {
		t.Error("the set has changed its watches")
	}
}

func TestSetsShareWatches(t *testing.T) {
	a, b := New(), New()
	s, u := NewSet(2), NewSet(2)
	if !s.Add(a) || !s.Add(b) || !u.Add(b) || s.Len() != 2 || u.Len() != 1 {
		t.Error("two sets with a watch in common")
	}
	if b.Fire(); s.First() != 1 || u.First() != 0 {
		t.Errorf("First: %d and %d", s.First(), u.First())
	}
}

// plainSet: what a set is to answer, by places of watches instead of watches.
type plainSet struct {
	most  int
	holds []int
	fired []bool
}

func (p *plainSet) add(i int) bool {
	if slices.Contains(p.holds, i) {
		return true
	}
	if len(p.holds) >= p.most {
		return false
	}
	p.holds = append(p.holds, i)
	return true
}

func (p *plainSet) first() int {
	for place, i := range p.holds {
		if p.fired[i] {
			return place
		}
	}
	return -1
}

// TestSetOfAllShortPlays: all plays of so many moves, each of which adds one of three watches, fires one, or adds nil.
func TestSetOfAllShortPlays(t *testing.T) {
	const watches, moves, length = 3, 7, 5
	plays := 1
	for range length {
		plays *= moves
	}
	for most := -1; most <= watches; most++ {
		for play := range plays {
			all := []*Watch{New(), New(), New()}
			s, p := NewSet(most), plainSet{most: most, fired: make([]bool, watches)}
			rest := play
			for range length {
				move := rest % moves
				rest /= moves
				switch {
				case move < watches:
					if got, want := s.Add(all[move]), p.add(move); got != want {
						t.Fatalf("most %d, play %d: Add(%d) = %v", most, play, move, got)
					}
				case move < 2*watches:
					all[move-watches].Fire()
					p.fired[move-watches] = true
				default:
					if s.Add(nil) {
						t.Fatalf("most %d, play %d: Add(nil) = true", most, play)
					}
				}
				if s.Len() != len(p.holds) || s.First() != p.first() {
					t.Fatalf("most %d, play %d: Len %d, First %d; want %d, %d", most, play, s.Len(), s.First(), len(p.holds), p.first())
				}
			}
		}
	}
}

// P2.3

func TestVigil(t *testing.T) {
	for _, c := range []struct {
		n      int
		rounds [][]int
		want   []int
	}{
		{3, [][]int{{2, 9}, {}, {0, 2}}, []int{2, -1, 0}},
		{0, nil, nil},
		{0, [][]int{{}, {0}, {-1, 1}}, nil},
		{1, nil, []int{-1}},
		{1, [][]int{}, []int{-1}},
		{1, [][]int{nil, {}, nil}, []int{-1}},
		{1, [][]int{{0}}, []int{0}},
		{1, [][]int{{0, 0, 0}, {0}}, []int{0}},
		{2, [][]int{{1, 0, 1, 0}, {0, 1}}, []int{0, 0}},
		{2, [][]int{nil, {}, {1}, nil, {0}, nil}, []int{4, 2}},
		{2, [][]int{{-1, 2, 3, -2, 64, math.MinInt, math.MaxInt}}, []int{-1, -1}},
		{2, [][]int{{-1, 1, math.MinInt}, {math.MaxInt, 0, 2}}, []int{1, 0}},
		{4, [][]int{{3}, {2}, {1}, {0}}, []int{3, 2, 1, 0}},
	} {
		got, err := Vigil(c.n, c.rounds)
		if !slices.Equal(got, c.want) || err != api.OK {
			t.Errorf("Vigil(%d, %v) = %v, %d; want %v", c.n, c.rounds, got, err, c.want)
		}
	}
}

func TestVigilCrowd(t *testing.T) {
	for _, n := range []int{math.MinInt, -65, -64, -2, -1, 65, 66, 128, 256, 1 << 32, math.MaxInt} {
		for _, rounds := range [][][]int{nil, {{}}, {{0, 64}}} {
			if got, err := Vigil(n, rounds); len(got) != 0 || err != api.ErrCrowd {
				t.Errorf("Vigil(%d, %v) = %v, %d", n, rounds, got, err)
			}
		}
	}
}

func TestVigilOfMost(t *testing.T) {
	// Round r wakes the watch r at the one end and the watch 63-r at the other one, and names those that are woken already.
	rounds := make([][]int, api.MaxVigil/2)
	want := make([]int, api.MaxVigil)
	for r := range rounds {
		for i := range r + 1 {
			rounds[r] = append(rounds[r], i, api.MaxVigil-1-i, api.MaxVigil)
		}
		want[r], want[api.MaxVigil-1-r] = r, r
	}
	for range 20 {
		if got, err := Vigil(api.MaxVigil, rounds); !slices.Equal(got, want) || err != api.OK {
			t.Fatalf("Vigil(%d, ..) = %v, %d", api.MaxVigil, got, err)
		}
	}
	all := make([]int, api.MaxVigil)
	for i := range all {
		all[i] = i
	}
	if got, err := Vigil(api.MaxVigil, [][]int{{}, all}); !slices.Equal(got, slices.Repeat([]int{1}, api.MaxVigil)) || err != api.OK {
		t.Errorf("all in one round = %v, %d", got, err)
	}
	if got, err := Vigil(api.MaxVigil, nil); !slices.Equal(got, slices.Repeat([]int{-1}, api.MaxVigil)) || err != api.OK {
		t.Errorf("no round = %v, %d", got, err)
	}
}

func TestVigilOfManyRounds(t *testing.T) {
	rounds := make([][]int, 100000)
	for r := range rounds {
		rounds[r] = []int{r / 1000}
	}
	got, err := Vigil(api.MaxVigil, rounds)
	if len(got) != api.MaxVigil || err != api.OK {
		t.Fatalf("%v, %d", got, err)
	}
	for i, round := range got {
		if round != i*1000 {
			t.Errorf("watch %d was woken in round %d", i, round)
		}
	}
}

// firstNaming: what Vigil is to answer: for each watch the first round in which its number stands.
func firstNaming(n int, rounds [][]int) []int {
	want := make([]int, n)
	for i := range want {
		want[i] = slices.IndexFunc(rounds, func(numbers []int) bool { return slices.Contains(numbers, i) })
	}
	return want
}

// shortRounds: all lists of at most two of the numbers -1 to 3.
func shortRounds() [][]int {
	all := [][]int{nil}
	for i := -1; i <= 3; i++ {
		all = append(all, []int{i})
		for j := -1; j <= 3; j++ {
			all = append(all, []int{i, j})
		}
	}
	return all
}

func TestVigilOfAllShortRounds(t *testing.T) {
	short := shortRounds()
	for n := range 4 {
		for _, first := range short {
			for _, second := range short {
				rounds := [][]int{first, second, {1}}
				got, err := Vigil(n, rounds)
				if !slices.Equal(got, firstNaming(n, rounds)) || err != api.OK {
					t.Fatalf("Vigil(%d, %v) = %v, %d", n, rounds, got, err)
				}
			}
		}
	}
}

// TestVigilSendsAllHome: a bubble of synctest gives a panic if a goroutine is left that waits.
func TestVigilSendsAllHome(t *testing.T) {
	for _, rounds := range [][][]int{nil, {{}}, {{0}}, {{0, 0, 1}, {5}}, {{0, 1, 2}, {3, 4}}} {
		for _, n := range []int{-1, 0, 1, 2, 5, 64, 65} {
			synctest.Test(t, func(t *testing.T) { Vigil(n, rounds) })
		}
	}
}

// TestVigilJoins: with one processor the goroutines that a call has waited for are gone when it answers, and those that it hasn't waited for are not, but where the scheduler happens to break in.
func TestVigilJoins(t *testing.T) {
	defer runtime.GOMAXPROCS(runtime.GOMAXPROCS(1))
	const tries = 100
	before, left := runtime.NumGoroutine(), 0
	for range tries {
		Vigil(api.MaxVigil, [][]int{{0, 1, 2}, {40}})
		if runtime.NumGoroutine() > before {
			left++
		}
	}
	if left > tries/2 {
		t.Errorf("goroutines were left behind %d of %d calls", left, tries)
	}
}

func TestVigilsAtOnce(t *testing.T) {
	rounds := [][]int{{7, 3}, {3, 5, 99}, {0}}
	var vigils sync.WaitGroup
	for range 16 {
		vigils.Go(func() {
			for n := range 20 {
				if got, err := Vigil(n, rounds); !slices.Equal(got, firstNaming(n, rounds)) || err != api.OK {
					t.Errorf("Vigil(%d, %v) = %v, %d", n, rounds, got, err)
				}
			}
		})
	}
	vigils.Wait()
}

func TestVigilLeavesItsArguments(t *testing.T) {
	room := [][]int{{2, 2, 9, -1, 7, 7}, {0, 7}, {1}}
	rounds := [][]int{room[0][:4], room[1][:1], room[2]}[:2]
	show := func() string { return fmt.Sprint(room, rounds[:cap(rounds)]) }
	before := show()
	first, err := Vigil(3, rounds)
	if err != api.OK || !slices.Equal(first, []int{1, -1, 0}) {
		t.Fatalf("%v, %d", first, err)
	}
	if after := show(); after != before {
		t.Errorf("the rounds and their spare room were %s, are %s", before, after)
	}
	whole := first[:cap(first)]
	for i := range whole {
		whole[i] = 50
	}
	if second, _ := Vigil(3, rounds); !slices.Equal(second, []int{1, -1, 0}) {
		t.Errorf("written over outside, a later answer is %v", second)
	}
}
