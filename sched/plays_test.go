package sched

import (
	"math/rand"
	"testing"
	"time"
)

// lists: all lists of at most so many actors.
func lists(most int) [][]bool {
	all := [][]bool{nil}
	for from, length := 0, 1; length <= most; length++ {
		to := len(all)
		for _, list := range all[from:to] {
			all = append(all, append(list[:len(list):len(list)], false), append(list[:len(list):len(list)], true))
		}
		from = to
	}
	return all
}

// Every short play, with few picks and small bounds, goes as the model says.
func TestAllShortPlays(t *testing.T) {
	const length = 4
	all := lists(3)
	count := 1
	for range length {
		count *= len(all)
	}
	var met [4]int
	for _, picks := range [][]int{nil, {1}, {2, -1}, {0, 0, 0, 0}, {-1, -1, -1}} {
		for bound := 0; bound <= 4; bound++ {
			for play := range count {
				r := newTrial(t, picks, bound)
				for rest, i := play, 0; i < length; i++ {
					r.next(all[rest%len(all)]...)
					rest /= len(all)
				}
				for rule, n := range r.rules {
					met[rule] += n
				}
			}
		}
	}
	for rule, n := range met {
		if n < 1000 {
			t.Errorf("rule %d has chosen %d times only", rule, n)
		}
	}
}

func randomPicks(rnd *rand.Rand, most int) []int {
	picks := make([]int, rnd.Intn(most))
	for i := range picks {
		picks[i] = rnd.Intn(12) - 4
		if rnd.Intn(8) == 0 {
			picks[i] = int(rnd.Uint64())
		}
		if rnd.Intn(30) == 0 {
			picks[i] = []int{leastInt, leastInt + 1, lastInt - 1, lastInt}[rnd.Intn(4)]
		}
	}
	return picks
}

// randomReady: each actor is ready so often in ten.
func randomReady(rnd *rand.Rand, count, often int) []bool {
	ready := make([]bool, count)
	for i := range ready {
		ready[i] = rnd.Intn(10) < often
	}
	return ready
}

// Long random plays go as the model says, with lists that grow and shrink, and each of the rules at work.
func TestLongRandomPlays(t *testing.T) {
	var met [4]int
	for seed := range int64(400) {
		rnd := rand.New(rand.NewSource(seed))
		bound := []int{leastInt, 0, 1, 2, 3, 5, 8, 20, lastInt}[rnd.Intn(9)]
		r := newTrial(t, randomPicks(rnd, 400), bound)
		often := 3 + rnd.Intn(7)
		most := 1 + rnd.Intn(9)
		for range 500 {
			count := most
			if rnd.Intn(20) == 0 {
				count = rnd.Intn(most + 3)
			}
			ready := randomReady(rnd, count, often)
			if rnd.Intn(50) == 0 {
				clear(ready)
			}
			r.next(ready...)
		}
		for rule, n := range r.rules {
			met[rule] += n
		}
	}
	for rule, n := range met {
		if n < 1000 {
			t.Errorf("rule %d has chosen %d times only", rule, n)
		}
	}
}

// P17.3: waits holds, for an actor, in how many calls one right behind the other, up to now, it was ready and was not chosen, with no list longer than n, for each n.
type waits map[int][]int

// count: what the call comes to; the n with which the actor has waited in bound + n calls, or -1.
func (w waits) count(ready []bool, chosen, bound, most int) int {
	for actor := range most {
		if w[actor] == nil {
			w[actor] = make([]int, most+1)
		}
		for n := range w[actor] {
			if actor < len(ready) && ready[actor] && chosen != actor && len(ready) <= n {
				w[actor][n]++
			} else {
				w[actor][n] = 0
			}
			if w[actor][n] >= bound+n {
				return n
			}
		}
	}
	return -1
}

// P17.3: whatever the picks and whoever else is ready, nobody waits longer than is promised; and some wait as long as may be.
func TestFairness(t *testing.T) {
	const most = 7
	longest := map[int]int{}
	for seed := range int64(600) {
		rnd := rand.New(rand.NewSource(seed))
		bound := 1 + rnd.Intn(6)
		picks := make([]int, 3000)
		for i := range picks {
			picks[i] = rnd.Intn(3) - 1
		}
		c := New(picks, bound)
		w := waits{}
		count := 1 + rnd.Intn(most)
		for range 500 {
			if rnd.Intn(60) == 0 {
				count = 1 + rnd.Intn(most)
			}
			ready := randomReady(rnd, count, 8)
			chosen, ok := c.Next(ready)
			if !ok {
				chosen = -1
			}
			if n := w.count(ready, chosen, bound, most); n >= 0 {
				t.Fatalf("seed %d: one was ready in %d calls with lists of at most %d, bound %d, and was not chosen", seed, bound+n, n, bound)
			}
			for actor := range most {
				longest[bound] = max(longest[bound], w[actor][most])
			}
		}
	}
	for bound := 1; bound <= 6; bound++ {
		if longest[bound] <= bound {
			t.Errorf("bound %d: nobody has waited longer than %d calls", bound, longest[bound])
		}
	}
}

// state is all of a chooser that its next choice hangs on, but for the picks.
type state struct {
	ages [3]int
	last int
}

// P17.3, for up to three actors: every state that picks and lists can lead to; in none has anybody waited in bound + 3 calls.
func TestFairnessEveryState(t *testing.T) {
	const most = 3
	all := lists(most)
	for bound := 1; bound <= 5; bound++ {
		begin := state{last: -1}
		seen := map[state]int{begin: 1}
		work := []state{begin}
		greatest := 0
		for len(work) > 0 {
			s := work[0]
			work = work[1:]
			for _, ready := range all {
				for pick := -1; pick < most; pick++ {
					c := New(nil, bound)
					c.ages, c.last = append([]int(nil), s.ages[:]...), s.last
					if pick >= 0 {
						c.picks = []int{pick}
					}
					c.Next(ready)
					next := state{last: c.last}
					copy(next.ages[:], c.ages)
					for _, age := range next.ages {
						greatest = max(greatest, age)
					}
					if greatest >= bound+most {
						t.Fatalf("bound %d: behind %+v and %v one has waited in %d calls", bound, s, ready, greatest)
					}
					if seen[next] == 0 {
						seen[next] = 1
						work = append(work, next)
					}
				}
			}
		}
		// With three actors that are always ready and picks for the last one, it does come to this.
		if greatest != bound+1 {
			t.Errorf("bound %d: the longest wait is of %d calls", bound, greatest)
		}
	}
}

// Many calls, and many actors, take their time alone: nothing is gone through that is past.
func TestManyCalls(t *testing.T) {
	began := time.Now()
	picks := make([]int, 1000000)
	for i := range picks {
		picks[i] = i * 7919
	}
	c := New(picks, 5)
	ready := []bool{true, false, true, true, true}
	var chosen [5]int
	for range 3 * len(picks) {
		i, ok := c.Next(ready)
		if !ok {
			t.Fatal("nobody is chosen")
		}
		chosen[i]++
	}
	if c.Left() != 0 || chosen[1] != 0 {
		t.Error(c.Left(), chosen)
	}
	const many = 1000000
	c = New(nil, lastInt)
	crowd := make([]bool, many)
	for i := range crowd {
		crowd[i] = i%2 == 1
	}
	for want := 1; want < 100; want += 2 {
		if i, ok := c.Next(crowd); i != want || !ok {
			t.Fatal(i, ok, want)
		}
	}
	if took := time.Since(began); took > time.Minute {
		t.Error(took)
	}
}
