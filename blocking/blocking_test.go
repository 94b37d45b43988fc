package blocking

import (
	"testing"
	"unsafe"

	"muster/api"
	"muster/catalog"
)

// The numbers that the chapter's section Types names.
func TestNumbers(t *testing.T) {
	if api.NoWait != 300 || api.MaxWait != 600 {
		t.Error(api.NoWait, api.MaxWait)
	}
	if api.EndFresh != 1 || api.EndTimer != 2 || api.EndCancel != 3 {
		t.Error(api.EndFresh, api.EndTimer, api.EndCancel)
	}
	if api.PhaseNone != 0 || api.PhaseNew != 1 || api.PhaseHeld != 2 || api.PhaseWait != 3 || api.PhaseDone != 4 {
		t.Error(api.PhaseNone, api.PhaseNew, api.PhaseHeld, api.PhaseWait, api.PhaseDone)
	}
}

// The chapter's examples.
func TestExamples(t *testing.T) {
	r := newTrial(t, 1)
	r.ask(api.Query{Kind: api.AskNodes, Min: 1})
	r.steps(1, 2, 3)
	isReady(t, r.engine, 1, false)
	r.newNode()
	isReady(t, r.engine, 1, true)
	r.steps(1, 2, 4)
	if a := r.ended(1, 2, api.EndFresh); len(a.Nodes) != 1 {
		t.Error(a)
	}

	r = newTrial(t, 1)
	r.ask(api.Query{Kind: api.AskNodes, Min: 1})
	r.steps(1, 2, 3)
	if r.advance(299) != 0 {
		t.Error("it fired too soon")
	}
	isReady(t, r.engine, 1, false)
	if r.advance(300) != 1 {
		t.Error("it did not fire")
	}
	r.steps(1, 2, 4)
	r.ended(1, 1, api.EndTimer)
}

func isReady(t *testing.T, e *Engine, id int, want bool) {
	t.Helper()
	if e.Ready(id) != want {
		t.Errorf("Ready of %d: %v", id, !want)
	}
}

// P15.1: an engine begins without queries and timers, with its clock at 0.
func TestNew(t *testing.T) {
	for _, most := range []int{leastInt, -1, 0, 1, 2, 600, lastInt} {
		c := catalog.New(7)
		e := New(c, most)
		if e.Open() != 0 || e.Now() != 0 || e.Phase(1) != api.PhaseNone || e.Phase(0) != api.PhaseNone {
			t.Error(most, e.Open(), e.Now())
		}
		if at, ok := e.Next(); at != 0 || ok {
			t.Error(most, at, ok)
		}
		if c.Index() != 7 {
			t.Error(c.Index())
		}
		id, err := e.Ask(api.Query{Kind: api.AskNodes, Min: 7})
		if most > 0 && (id != 1 || err != nil || e.Open() != 1) {
			t.Error(most, id, err)
		}
		if most <= 0 && (id != 0 || err != api.ErrFull || e.Open() != 0) {
			t.Error(most, id, err)
		}
	}
}

// P15.1: engines over one catalog, and over several, have nothing to do with each other.
func TestEnginesOfTheirOwn(t *testing.T) {
	c := catalog.New(1)
	one, two, other := New(c, 1), New(c, 2), New(catalog.New(1), 1)
	for _, e := range []*Engine{one, two, other} {
		if id, err := e.Ask(api.Query{Kind: api.AskNodes, Min: 1}); id != 1 || err != nil {
			t.Fatal(id, err)
		}
		e.Step(1)
		e.Step(1)
	}
	one.Advance(5)
	two.Cancel(1)
	if one.Ready(1) || !two.Ready(1) || other.Ready(1) || two.Now() != 0 || other.Now() != 0 {
		t.Error("what was done to one is seen at another")
	}
	c.Apply([]api.Op{node("a")})
	if !one.Ready(1) || other.Ready(1) {
		t.Error("a commit is heard of at its own catalog alone")
	}
}

// P15.1, P15.2: open are the phases 1 to 3; a query that is done makes room, whether it is taken or not, one that is cancelled doesn't yet.
func TestOpenAndFull(t *testing.T) {
	r := newTrial(t, 2)
	q := api.Query{Kind: api.AskNodes, Min: 1}
	full := func(want int) {
		t.Helper()
		if got := r.ask(q); got != want {
			t.Fatalf("Ask: %d, not %d", got, want)
		}
	}
	full(1)
	full(2)
	full(0)
	r.step(1)
	full(0)
	r.step(1)
	full(0)
	r.cancel(1)
	full(0)
	r.step(1)
	full(0)
	r.step(1) // done
	full(3)   // no id was used by those that were refused
	full(0)
	r.take(1)
	full(0)
	r.newNode()
	r.steps(2, 2, 4)
	full(4)
	full(0)
	r.end()
	full(5)
}

// P15.2: a refused Ask has changed nothing: no timer is set, the ids go on.
func TestRefusedAskSetsNoTimer(t *testing.T) {
	r := newTrial(t, 1)
	r.ask(api.Query{Kind: api.AskNodes, Min: 1, Wait: 500})
	r.ask(api.Query{Kind: api.AskNodes, Min: 1, Wait: 5})
	if at, ok := r.engine.Next(); at != 500 || !ok {
		t.Error(at, ok)
	}
	if r.advance(499) != 0 || r.advance(500) != 1 {
		t.Error("a timer of a refused query")
	}
	none := newTrial(t, 0)
	for range 3 {
		none.ask(api.Query{Kind: api.AskNodes})
	}
	none.end()
}

// P15.2: the wait is 300 for 0 and at most 600; a query whose Min is 0 has no timer, whatever its Wait.
func TestWaits(t *testing.T) {
	waits := []struct{ wait, want uint64 }{{0, 300}, {1, 1}, {2, 2}, {299, 299}, {300, 300}, {301, 301}, {599, 599}, {600, 600}, {601, 600}, {1 << 32, 600}, {1 << 63, 600}, {lastTime, 600}}
	for _, w := range waits {
		for _, now := range []uint64{0, 1, 1000, lastTime - 600} {
			r := newTrial(t, 1)
			r.advance(now)
			r.ask(api.Query{Kind: api.AskNodes, Min: 9, Wait: w.wait})
			if at, ok := r.engine.Next(); at != now+w.want || !ok {
				t.Fatalf("wait %d at %d: %d, %v", w.wait, now, at, ok)
			}
			r.steps(1, 2, 3)
			r.advance(now + w.want - 1)
			r.steps(1, 3)
			r.advance(now + w.want)
			r.steps(1, 2, 4)
			r.ended(1, 1, api.EndTimer)
		}
		r := newTrial(t, 1)
		r.ask(api.Query{Kind: api.AskNodes, Wait: w.wait})
		if at, ok := r.engine.Next(); at != 0 || ok {
			t.Errorf("a timer at %d without Min", at)
		}
	}
}

// P15.2: the wait is counted from the Ask on, not from a step.
func TestWaitBeginsWithTheAsk(t *testing.T) {
	r := newTrial(t, 2)
	r.ask(api.Query{Kind: api.AskNodes, Min: 1, Wait: 10})
	r.advance(4)
	r.ask(api.Query{Kind: api.AskNodes, Min: 1, Wait: 10})
	r.steps(1, 2, 3)
	r.steps(2, 2, 3)
	if r.advance(10) != 1 || r.advance(13) != 0 || r.advance(14) != 1 {
		t.Error("the timers")
	}
	r.end()
}

// P15.2, P15.7: at the end of the clock the timer's time is 2^64 - 1; a clock that stands there fires what is set there when it is put there again.
func TestEndOfTheClock(t *testing.T) {
	r := newTrial(t, 3)
	r.advance(lastTime - 5)
	r.ask(api.Query{Kind: api.AskNodes, Min: 1, Wait: 5})
	r.ask(api.Query{Kind: api.AskNodes, Min: 1, Wait: 6})
	r.ask(api.Query{Kind: api.AskNodes, Min: 1, Wait: lastTime})
	if at, ok := r.engine.Next(); at != lastTime || !ok {
		t.Error(at, ok)
	}
	if r.advance(lastTime-1) != 0 || r.advance(lastTime) != 3 {
		t.Error("the timers at the end")
	}
	for id := 1; id <= 3; id++ {
		r.steps(id, 2, 4)
		r.ended(id, 1, api.EndTimer)
	}
	id := r.ask(api.Query{Kind: api.AskNodes, Min: 1})
	r.steps(id, 2, 3, 3)
	if at, ok := r.engine.Next(); at != lastTime || !ok {
		t.Error(at, ok)
	}
	if r.advance(lastTime) != 1 {
		t.Error("the timer at the clock's own time")
	}
	r.steps(id, 2, 4)
}

// P15.3: a query without Min is done in two steps, with what its first step saw.
func TestAtOnce(t *testing.T) {
	r := newTrial(t, 1)
	r.ask(api.Query{Kind: api.AskNodes})
	r.newNode() // ahead of the view: it is seen
	r.steps(1, 2)
	r.newNode() // behind it: it isn't
	r.steps(1, 4, 4, 4)
	if a := r.ended(1, 2, api.EndFresh); len(a.Nodes) != 1 {
		t.Error(a)
	}
	r.steps(1, 0)
}

// P15.3: Min is compared with the index of the query's kind: above it, not at it.
func TestMinIsAnEdge(t *testing.T) {
	for min := range uint64(6) {
		r := newTrial(t, 1)
		r.newNode()
		r.newNode() // index 3
		r.ask(api.Query{Kind: api.AskNodes, Min: min})
		r.step(1)
		if min < 3 {
			r.steps(1, 4)
			r.ended(1, 3, api.EndFresh)
			continue
		}
		r.steps(1, 3)
		for index := uint64(4); index <= min; index++ {
			r.newNode()
			r.steps(1, 2, 3) // it is newer, but not enough
		}
		r.newNode()
		r.steps(1, 2, 4)
		r.ended(1, min+1, api.EndFresh)
	}
	r := newTrialFrom(t, 2, lastTime-1)
	r.ask(api.Query{Kind: api.AskNodes, Min: lastTime - 1})
	r.ask(api.Query{Kind: api.AskNodes, Min: lastTime})
	r.newNode()
	r.steps(1, 2, 4)
	r.ended(1, lastTime, api.EndFresh)
	r.steps(2, 2, 3)
	r.end()
}

// P15.3: which commits wake which kind, and what it waits for: the index of its own tables.
func TestKinds(t *testing.T) {
	for _, kind := range []int{leastInt, -1, 0, 1, 2, 3, 4, 5, 6, 7, 257, lastInt} {
		for table, commit := range map[string]func(*trial){"nodes": (*trial).newNode, "services": (*trial).newService, "checks": (*trial).newCheck} {
			r := newTrial(t, 1)
			r.commit([]string{"nodes"}, node("a"))
			r.ask(api.Query{Kind: kind, Name: "a", Min: 2, Status: 1})
			r.steps(1, 2, 3)
			commit(r)
			hears := false
			for _, own := range tablesOf(kind) {
				hears = hears || own == table
			}
			isReady(t, r.engine, 1, hears)
			if !hears {
				r.steps(1, 3)
				continue
			}
			r.steps(1, 2, 4)
			r.ended(1, 3, api.EndFresh)
		}
	}
}

// P15.3: a kind that is none of the six has the index 0 and no watches: it waits for its timer, or is cancelled.
func TestOtherKinds(t *testing.T) {
	for _, kind := range []int{leastInt, -1, 0, 7, lastInt} {
		r := newTrial(t, 3)
		r.ask(api.Query{Kind: kind})
		r.steps(1, 2, 4)
		r.ended(1, 0, api.EndFresh)
		r.ask(api.Query{Kind: kind, Min: 1})
		r.ask(api.Query{Kind: kind, Min: lastTime})
		r.steps(2, 2, 3)
		r.steps(3, 2, 3)
		r.newNode()
		r.steps(2, 3)
		r.advance(300)
		r.cancel(3)
		r.steps(2, 2, 4)
		r.steps(3, 2, 4)
		r.ended(2, 0, api.EndTimer)
		r.ended(3, 0, api.EndCancel)
	}
}

// P15.3: the answers are layer 11's, of each kind, with its name, tag and the rest.
func TestAnswers(t *testing.T) {
	r := newTrial(t, 20)
	r.commit([]string{"nodes", "services", "checks"}, node("a"), node("b"), service("a", "w1", "web", "x"), service("b", "w2", "web", "y"), service("a", "d1", "db"), check("a", "c1", "", 1), check("a", "c2", "w1", 2), check("b", "c3", "w2", 1))
	queries := []api.Query{
		{Kind: api.AskNodes}, {Kind: api.AskServices}, {Kind: api.AskServices, Name: "web"}, {Kind: api.AskServices, Name: "web", Tag: "x"},
		{Kind: api.AskNode, Name: "a"}, {Kind: api.AskNode, Name: "q"}, {Kind: api.AskHealth, Name: "web"}, {Kind: api.AskHealth, Name: "web", Passing: true},
		{Kind: api.AskHealth, Name: "web", Tag: "x"}, {Kind: api.AskChecks, Status: 1}, {Kind: api.AskChecks, Status: 2}, {Kind: api.AskNames},
	}
	sizes := []int{2, 3, 2, 1, 5, 0, 2, 1, 1, 2, 1, 2}
	for round := range 2 {
		for i, q := range queries {
			q.Min = uint64(round)
			id := r.ask(q)
			r.steps(id, 2, 4)
			a := r.ended(id, 2, api.EndFresh)
			if n := len(a.Nodes) + len(a.Services) + len(a.Checks) + len(a.Instances) + len(a.Tallies); n != sizes[i] {
				t.Errorf("%+v: %+v", q, a)
			}
		}
	}
}

// P15.3: lists that are refused, or change nothing, wake nobody.
func TestNothingChangedWakesNobody(t *testing.T) {
	r := newTrial(t, 1)
	r.commit([]string{"nodes"}, node("a"))
	r.ask(api.Query{Kind: api.AskNode, Name: "a", Min: 2})
	r.steps(1, 2, 3)
	r.commit(nil, node("a"))
	r.commit(nil, node("b"), check("nobody", "c", "", 1))
	r.commit(nil, dropNode("b"))
	r.commit(nil)
	r.steps(1, 3, 3)
	r.commit([]string{"nodes"}, dropNode("a"))
	r.steps(1, 2, 4)
	if a := r.ended(1, 3, api.EndFresh); len(a.Nodes) != 0 {
		t.Error(a)
	}
}

// P15.3: what is newer goes ahead of having been cancelled, and that ahead of the timer.
func TestOrderOfEnds(t *testing.T) {
	for reasons := 1; reasons < 8; reasons++ {
		r := newTrial(t, 1)
		r.ask(api.Query{Kind: api.AskNodes, Min: 1})
		r.steps(1, 2, 3)
		index, end := uint64(1), 0
		if reasons&1 != 0 {
			r.advance(300)
			end = api.EndTimer
		}
		if reasons&2 != 0 {
			r.cancel(1)
			end = api.EndCancel
		}
		if reasons&4 != 0 {
			r.newNode()
			index, end = 2, api.EndFresh
		}
		r.steps(1, 2, 4)
		r.ended(1, index, end)
	}
}

// P15.3: a reason to end that comes while the view is held, or ahead of it, ends the query at that view, without waiting.
func TestReasonsAheadOfTheWait(t *testing.T) {
	for steps := range 2 {
		for _, late := range []bool{false, true} {
			r := newTrial(t, 1)
			r.ask(api.Query{Kind: api.AskNodes, Min: 1})
			for range steps {
				r.step(1)
			}
			end := api.EndCancel
			if late {
				r.advance(300)
				end = api.EndTimer
			} else {
				r.cancel(1)
			}
			for range 2 - steps {
				r.step(1)
			}
			if r.engine.Phase(1) != api.PhaseDone {
				t.Error(steps, late)
			}
			r.ended(1, 1, end)
		}
	}
	r := newTrial(t, 1)
	r.ask(api.Query{Kind: api.AskNodes})
	r.cancel(1)
	r.steps(1, 2, 4)
	r.ended(1, 1, api.EndFresh)
}

// P15.3, P15.8: a commit between any two steps is not missed.
func TestCommitBetweenSteps(t *testing.T) {
	phases := [][]int{{2, 4}, {3, 2, 4}, {2, 4}}
	for ahead, want := range phases {
		r := newTrial(t, 1)
		r.ask(api.Query{Kind: api.AskHealth, Name: "web", Min: 1})
		for range ahead {
			r.step(1)
		}
		r.commit([]string{"nodes", "services"}, node("a"), service("a", "w", "web"))
		r.steps(1, want...)
		if a := r.ended(1, 2, api.EndFresh); len(a.Instances) != 1 {
			t.Error(ahead, a)
		}
	}
}

// P15.3, P15.8: several commits between two steps are one to whoever waits: it sees the last.
func TestManyCommitsBetweenSteps(t *testing.T) {
	r := newTrial(t, 1)
	r.ask(api.Query{Kind: api.AskNodes, Min: 1})
	r.steps(1, 2, 3)
	for range 5 {
		r.newNode()
	}
	r.steps(1, 2)
	r.newNode()
	r.steps(1, 4)
	if a := r.ended(1, 6, api.EndFresh); len(a.Nodes) != 5 {
		t.Error(a)
	}
}

// P15.3: a query that waits again waits on the watches of its new view: a commit that woke it once wakes it no more.
func TestWaitsAnew(t *testing.T) {
	r := newTrial(t, 1)
	r.ask(api.Query{Kind: api.AskNodes, Min: 50, Wait: 600})
	r.steps(1, 2, 3)
	for range 20 {
		r.newNode()
		r.steps(1, 2, 3, 3, 3)
	}
	r.advance(600)
	r.steps(1, 2, 4)
	r.ended(1, 21, api.EndTimer)
}

// P15.3: Step, Phase and the rest of ids that there aren't.
func TestNoSuchQuery(t *testing.T) {
	r := newTrial(t, 3)
	r.ask(api.Query{Kind: api.AskNodes, Min: 1})
	for _, id := range []int{leastInt, -1, 0, 2, 3, 4, 1 << 32, 1<<32 + 1, lastInt} {
		if r.engine.Phase(id) != 0 || r.engine.Ready(id) || r.engine.Step(id) != 0 || r.engine.Cancel(id) {
			t.Error(id)
		}
		r.take(id)
	}
	r.stands("others")
}

// P15.3: the timer of a done query is stopped: neither Next nor Advance tells of it.
func TestTimerIsStopped(t *testing.T) {
	r := newTrial(t, 4)
	for range 4 {
		r.ask(api.Query{Kind: api.AskNodes, Min: 1, Wait: 5})
	}
	r.newNode()
	r.steps(1, 2, 4)
	r.ask(api.Query{Kind: api.AskChecks, Min: 1, Wait: 9})
	if r.advance(5) != 3 {
		t.Error("a stopped timer fires")
	}
	r.cancel(5)
	if at, ok := r.engine.Next(); at != 9 || !ok {
		t.Error("the timer of a query that is cancelled, but open, is pending", at, ok)
	}
	r.steps(5, 2, 4)
	if at, ok := r.engine.Next(); at != 0 || ok {
		t.Error(at, ok)
	}
	if r.advance(9) != 0 {
		t.Error("a stopped timer fires")
	}
	r.ended(5, 1, api.EndCancel)
}

// P15.5: Cancel in each phase, and twice.
func TestCancel(t *testing.T) {
	for steps := range 3 {
		r := newTrial(t, 1)
		r.ask(api.Query{Kind: api.AskNodes, Min: 1})
		for range steps {
			r.step(1)
		}
		if !r.cancel(1) || r.cancel(1) {
			t.Error("Cancel, Cancel", steps)
		}
		if r.engine.Phase(1) != steps+1 {
			t.Error("Cancel is no step", steps)
		}
		isReady(t, r.engine, 1, true)
		for range 2 {
			r.step(1)
		}
		if r.cancel(1) {
			t.Error("Cancel of a done query")
		}
		r.ended(1, 1, api.EndCancel)
		if r.cancel(1) {
			t.Error("Cancel of a query that is gone")
		}
	}
	r := newTrial(t, 1)
	r.ask(api.Query{Kind: api.AskNodes})
	r.steps(1, 2, 4)
	if r.cancel(1) {
		t.Error("Cancel of a done query that wasn't cancelled")
	}
	r.ended(1, 1, api.EndFresh)
}

// P15.5, P15.7: a cancelled query's timer may fire still: it counts, and the query is cancelled for all that.
func TestCancelledTimerFires(t *testing.T) {
	r := newTrial(t, 1)
	r.ask(api.Query{Kind: api.AskNodes, Min: 1})
	r.steps(1, 2, 3)
	r.cancel(1)
	if r.advance(300) != 1 {
		t.Error("the timer")
	}
	if r.cancel(1) {
		t.Error("cancelled anew")
	}
	r.steps(1, 2, 4)
	r.ended(1, 1, api.EndCancel)
}

// P15.6: Take of a query that isn't done; of one that is, once.
func TestTake(t *testing.T) {
	r := newTrial(t, 2)
	r.ask(api.Query{Kind: api.AskNodes, Min: 1})
	r.ask(api.Query{Kind: api.AskNodes})
	for range 3 {
		if _, ok := r.take(1); ok {
			t.Error("taken ahead of its end")
		}
		r.step(1)
	}
	r.steps(2, 2, 4)
	r.newNode() // behind its end: the answer stays
	r.advance(1000)
	if a, ok := r.take(2); !ok || a.Index != 1 || len(a.Nodes) != 0 {
		t.Error(a, ok)
	}
	if _, ok := r.take(2); ok {
		t.Error("taken twice")
	}
	if id := r.ask(api.Query{Kind: api.AskNodes}); id != 3 {
		t.Error("an id is used again", id)
	}
	r.end()
}

// P15.7: the clock, and how many timers have fired.
func TestAdvance(t *testing.T) {
	r := newTrial(t, 10)
	for _, wait := range []uint64{7, 3, 3, 5, 0, 9000} {
		r.ask(api.Query{Kind: api.AskNodes, Min: 1, Wait: wait})
	}
	r.ask(api.Query{Kind: api.AskNodes})
	steps := []struct {
		now   uint64
		fired int
	}{{0, 0}, {2, 0}, {3, 2}, {3, 0}, {2, 0}, {0, 0}, {6, 1}, {299, 1}, {600, 2}, {599, 0}, {lastTime, 0}, {0, 0}, {lastTime - 1, 0}, {lastTime, 0}}
	for _, s := range steps {
		if got := r.advance(s.now); got != s.fired {
			t.Errorf("Advance(%d): %d, not %d", s.now, got, s.fired)
		}
	}
	if n, err := r.engine.Advance(5); n != 0 || err != api.ErrPast || int(err) != 142 {
		t.Error(n, err)
	}
}

// P15.7: the clock is set back for nobody: a refused Advance fires nothing and wakes nobody.
func TestRefusedAdvance(t *testing.T) {
	r := newTrial(t, 1)
	r.advance(50)
	r.ask(api.Query{Kind: api.AskNodes, Min: 1, Wait: 1})
	r.steps(1, 2, 3)
	r.advance(49)
	r.advance(0)
	isReady(t, r.engine, 1, false)
	r.advance(50)
	isReady(t, r.engine, 1, false)
	r.advance(51)
	isReady(t, r.engine, 1, true)
}

// P15.8: a query that ends by its timer has looked once more behind it: what was committed meanwhile is in its answer.
func TestLooksOnceMore(t *testing.T) {
	r := newTrial(t, 2)
	r.commit([]string{"nodes"}, node("a"))
	r.ask(api.Query{Kind: api.AskNodes, Min: 8})
	r.ask(api.Query{Kind: api.AskNodes, Min: 8})
	r.steps(1, 2, 3)
	r.steps(2, 2, 3)
	r.advance(300)
	r.newNode()
	r.steps(1, 2, 4)
	if a := r.ended(1, 3, api.EndTimer); len(a.Nodes) != 2 {
		t.Error(a)
	}
	for range 6 {
		r.newNode()
	}
	r.steps(2, 2, 4)
	r.ended(2, 9, api.EndFresh)
}

// The texts of a query are copied: they may be written over behind the call, as only unsafe can.
func TestTextsAreNotKept(t *testing.T) {
	c := catalog.New(1)
	c.Apply([]api.Op{node("a"), service("a", "w", "web", "x")})
	e := New(c, 1)
	name, tag := []byte("web"), []byte("x")
	e.Ask(api.Query{Kind: api.AskServices, Name: text(name), Tag: text(tag)})
	copy(name, "zzz")
	copy(tag, "z")
	e.Step(1)
	e.Step(1)
	if a, ok := e.Take(1); !ok || len(a.Services) != 1 {
		t.Error(a, ok)
	}
}

func text(room []byte) string { return unsafe.String(&room[0], len(room)) }
