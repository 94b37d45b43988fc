package blocking

import (
	"runtime"
	"strconv"
	"sync"
	"testing"
	"time"

	"muster/api"
	"muster/catalog"
)

// follow: asks again and again with the index that was seen last, until the last index is seen; what it saw. It fails if an answer isn't newer than the one before, or isn't of one moment.
func follow(t *testing.T, c *catalog.Catalog, last uint64) int {
	e := New(c, 1)
	seen, answers := uint64(1), 0
	began := time.Now()
	for seen < last {
		id, err := e.Ask(api.Query{Kind: api.AskNodes, Min: seen})
		if err != nil {
			t.Error(err)
			return answers
		}
		for e.Step(id) != api.PhaseDone {
			if time.Since(began) > time.Minute {
				t.Errorf("a commit behind index %d is missed", seen)
				return answers
			}
			if !e.Ready(id) {
				runtime.Gosched()
			}
		}
		a, ok := e.Take(id)
		if !ok || a.Ended != api.EndFresh || a.Index <= seen || uint64(len(a.Nodes)) != a.Index-1 {
			t.Errorf("behind index %d: %d, %d, %d nodes", seen, a.Index, a.Ended, len(a.Nodes))
			return answers
		}
		seen = a.Index
		answers++
	}
	return answers
}

// P15.8, P15.9: while others commit, whoever follows comes to the last commit, and each answer is of one moment. (Each has an engine of its own; the catalog is everybody's.)
func TestCommitsAtOnce(t *testing.T) {
	const writers, followers, lists = 3, 4, 100
	c := catalog.New(1)
	var all sync.WaitGroup
	for w := range writers {
		all.Go(func() {
			for n := range lists {
				c.Apply([]api.Op{node("n" + strconv.Itoa(w) + "-" + strconv.Itoa(n))})
				runtime.Gosched()
			}
		})
	}
	for range followers {
		all.Go(func() {
			if n := follow(t, c, writers*lists+1); n < 1 || n > writers*lists {
				t.Errorf("%d answers", n)
			}
		})
	}
	all.Wait()
}

// Very many queries wait at once: none goes through the others.
func TestManyQueries(t *testing.T) {
	const many = 50000
	began := time.Now()
	c := catalog.New(1)
	e := New(c, many)
	for id := 1; id <= many; id++ {
		if got, err := e.Ask(api.Query{Kind: api.AskNodes, Min: 1, Wait: uint64(1 + id%600)}); got != id || err != nil {
			t.Fatal(got, err)
		}
		if e.Step(id) != api.PhaseHeld || e.Step(id) != api.PhaseWait || e.Ready(id) {
			t.Fatal(id)
		}
	}
	if id, err := e.Ask(api.Query{}); id != 0 || err != api.ErrFull || e.Open() != many {
		t.Fatal(id, err)
	}
	// Half of them are late, those that are not hear of the commit.
	n, err := e.Advance(300)
	if n == 0 || n == many || err != api.OK {
		t.Fatal(n, err)
	}
	late := 0
	for id := 1; id <= many; id += 2 {
		if e.Ready(id) {
			late++
		}
		endsWith(t, e, id, 1)
	}
	c.Apply([]api.Op{node("a")})
	for id := 2; id <= many; id += 2 {
		endsWith(t, e, id, 2)
	}
	if _, ok := e.Next(); ok || e.Open() != 0 || late != n/2 {
		t.Error(e.Open(), late, n)
	}
	if took := time.Since(began); took > time.Minute {
		t.Error(took)
	}
}

// endsWith: the query comes to its end with this index; one that has no reason to end is cancelled.
func endsWith(t *testing.T, e *Engine, id int, index uint64) {
	t.Helper()
	if !e.Ready(id) && !e.Cancel(id) {
		t.Fatal(id)
	}
	for range 2 {
		e.Step(id)
	}
	if a, ok := e.Take(id); !ok || a.Index != index {
		t.Fatal(id, a, ok)
	}
}
