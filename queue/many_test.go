package queue

import (
	"errors"
	"runtime"
	"strconv"
	"sync"
	"sync/atomic"
	"testing"
	"time"

	"muster/api"
	"muster/catalog"
)

// within: fails if what is done doesn't end.
func within(t *testing.T, what string, do func()) {
	t.Helper()
	done := make(chan int)
	go func() {
		do()
		close(done)
	}()
	select {
	case <-done:
	case <-time.After(time.Minute):
		t.Fatal(what)
	}
}

// submitAt: submits as soon as there is room; its ticket.
func submitAt(t *testing.T, q *Queue, most int, ops []api.Op) uint64 {
	for {
		ticket, err := q.Submit(ops)
		if err == nil {
			return ticket
		}
		if r, ok := err.(*Refusal); !ok || ticket != 0 || r.Waiting != most || r.Err != api.ErrFull {
			t.Errorf("%d, %+v", ticket, err)
		}
		runtime.Gosched()
	}
}

// takeAt: takes the outcome as soon as it is there. Until then the ticket waits: it is never nowhere.
func takeAt(t *testing.T, q *Queue, ticket uint64) api.Outcome {
	for {
		o, state := q.Take(ticket)
		switch {
		case state == api.TicketDone:
			return o
		case state != api.TicketWaiting || o != (api.Outcome{}):
			t.Errorf("ticket %d: %+v, %d", ticket, o, state)
			return o
		}
		runtime.Gosched()
	}
}

// stepUntil: steps until done is set and nothing waits.
func stepUntil(q *Queue, c *catalog.Catalog, done *atomic.Int64) {
	for {
		last := done.Load() == 1
		if _, ok := q.Step(c); !ok {
			if last {
				return
			}
			runtime.Gosched()
		}
	}
}

// Any number may submit, step, take and ask at once: each list is applied once, in the order of the tickets, and each outcome is its own list's.
func TestManyAtOnce(t *testing.T) {
	const clients, writers, lists, most = 6, 3, 150, 4
	q, c := New(most), catalog.New(1)
	var outcomes [clients*lists + 1]api.Outcome
	var names [clients*lists + 1]string
	var submitting, others sync.WaitGroup
	var done atomic.Int64
	for i := range clients {
		submitting.Go(func() {
			for n := range lists {
				name := "n" + strconv.Itoa(i) + "-" + strconv.Itoa(n)
				ops := []api.Op{node(name, home)}
				ticket := submitAt(t, q, most, ops)
				// What was handed in may be written over at once.
				ops[0] = api.Op{}
				names[ticket] = name
				outcomes[ticket] = takeAt(t, q, ticket)
				if o, state := q.Take(ticket); o != (api.Outcome{}) || state != api.TicketNone {
					t.Errorf("taken twice: %+v, %d", o, state)
				}
			}
		})
	}
	for range writers {
		others.Go(func() { stepUntil(q, c, &done) })
	}
	others.Go(func() {
		for done.Load() == 0 {
			if n := q.Waiting(); n < 0 || n > most {
				t.Errorf("%d wait", n)
			}
			runtime.Gosched()
		}
	})
	within(t, "the clients don't end", submitting.Wait)
	done.Store(1)
	within(t, "the writers don't end", others.Wait)
	for ticket := 1; ticket <= clients*lists; ticket++ {
		want := api.Outcome{Index: uint64(ticket + 1), Changed: true}
		if outcomes[ticket] != want {
			t.Fatalf("ticket %d: %+v, not %+v", ticket, outcomes[ticket], want)
		}
		if n, ok := c.View().Node(names[ticket]); !ok || n.Made != want.Index {
			t.Fatalf("ticket %d: %+v", ticket, n)
		}
	}
	if c.Index() != clients*lists+1 || q.Waiting() != 0 {
		t.Error(c.Index(), q.Waiting())
	}
}

// A list is either withdrawn or applied, never both and never neither.
func TestManyWithdraw(t *testing.T) {
	const clients, lists = 6, 200
	q, c := New(clients), catalog.New(1)
	var submitting, writing sync.WaitGroup
	var done, withdrawn atomic.Int64
	for i := range clients {
		submitting.Go(func() {
			for n := range lists {
				name := "n" + strconv.Itoa(i) + "-" + strconv.Itoa(n)
				ticket := submitAt(t, q, clients, []api.Op{node(name, home)})
				if n%3 == 0 {
					runtime.Gosched()
				}
				back := q.Withdraw(ticket)
				if back {
					withdrawn.Add(1)
				}
				o, state := q.Take(ticket)
				if back != (state == api.TicketNone) || !back && (state != api.TicketDone || !o.Changed) {
					t.Errorf("withdrawn %v, %+v, %d", back, o, state)
				}
				if _, ok := c.View().Node(name); ok == back {
					t.Errorf("withdrawn %v, applied %v", back, ok)
				}
			}
		})
	}
	for range 2 {
		writing.Go(func() { stepUntil(q, c, &done) })
	}
	within(t, "the clients don't end", submitting.Wait)
	done.Store(1)
	within(t, "the writers don't end", writing.Wait)
	if got, want := len(c.View().Nodes()), clients*lists-int(withdrawn.Load()); got != want {
		t.Errorf("%d nodes, not %d", got, want)
	}
}

// Of many that take one ticket at once, one gets the outcome; of many that withdraw one, one gets it back.
func TestOneOfMany(t *testing.T) {
	const many, rounds = 8, 200
	q, c := New(2), catalog.New(1)
	for round := range rounds {
		taken, _ := q.Submit([]api.Op{node("n"+strconv.Itoa(round), home)})
		q.Step(c)
		back, _ := q.Submit([]api.Op{node("x", home)})
		var took, got atomic.Int64
		var all sync.WaitGroup
		for range many {
			all.Go(func() {
				if o, state := q.Take(taken); state == api.TicketDone {
					took.Add(1)
					if o != (api.Outcome{Index: uint64(2 + round), Changed: true}) {
						t.Errorf("%+v", o)
					}
				} else if state != api.TicketNone || o != (api.Outcome{}) {
					t.Errorf("%+v, %d", o, state)
				}
				if q.Withdraw(back) {
					got.Add(1)
				}
			})
		}
		all.Wait()
		if took.Load() != 1 || got.Load() != 1 {
			t.Fatalf("%d took it, %d got it back", took.Load(), got.Load())
		}
	}
}

// Behind a Close nobody gets in any more, and the room is never overrun.
func TestManyAgainstClose(t *testing.T) {
	const many, rounds, most = 8, 100, 5
	for range rounds {
		q, c := New(most), catalog.New(1)
		var taken, full, closed atomic.Int64
		var all sync.WaitGroup
		for i := range many {
			all.Go(func() {
				switch _, err := q.Submit([]api.Op{node("n"+strconv.Itoa(i), home)}); {
				case err == nil:
					taken.Add(1)
				case errors.Is(err, api.ErrFull):
					full.Add(1)
				case errors.Is(err, api.ErrClosed):
					closed.Add(1)
				}
				if i == many/2 {
					q.Close()
				}
			})
		}
		all.Wait()
		if taken.Load()+full.Load()+closed.Load() != many || taken.Load() > most || int(taken.Load()) != q.Waiting() {
			t.Fatalf("%d were taken, %d refused as full, %d as closed, %d wait", taken.Load(), full.Load(), closed.Load(), q.Waiting())
		}
		_, err := q.Submit(nil)
		refused(t, err, int(taken.Load()), api.ErrClosed)
		for want := uint64(1); want <= uint64(taken.Load()); want++ {
			if ticket, ok := q.Step(c); ticket != want || !ok {
				t.Fatal(ticket, ok)
			}
		}
		if _, ok := q.Step(c); ok {
			t.Fatal("one list more")
		}
	}
}
