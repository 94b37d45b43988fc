package queue

import (
	"errors"
	"slices"
	"strconv"
	"testing"

	"muster/api"
	"muster/catalog"
)

const (
	home  = "10.0.0.1"
	other = "10.0.0.2"
)

// model is a plain queue: a line of lists, and what is known of tickets. Its catalog is its own, and lists are applied to it as they are.
type model struct {
	most    int
	closed  bool
	tickets uint64
	line    []waiter
	done    []result
	catalog *catalog.Catalog
}

type waiter struct {
	ticket uint64
	ops    []api.Op
}

type result struct {
	ticket  uint64
	outcome api.Outcome
}

func (m *model) submit(ops []api.Op) (uint64, error) {
	switch {
	case m.closed:
		return 0, api.ErrClosed
	case len(m.line) >= m.most:
		return 0, api.ErrFull
	}
	m.tickets++
	m.line = append(m.line, waiter{m.tickets, ops})
	return m.tickets, nil
}

func (m *model) place(ticket uint64) int {
	return slices.IndexFunc(m.line, func(w waiter) bool { return w.ticket == ticket })
}

func (m *model) withdraw(ticket uint64) bool {
	at := m.place(ticket)
	if at < 0 {
		return false
	}
	m.line = slices.Delete(m.line, at, at+1)
	return true
}

func (m *model) step() (uint64, bool) {
	if len(m.line) == 0 {
		return 0, false
	}
	first := m.line[0]
	m.line = m.line[1:]
	m.done = append(m.done, result{first.ticket, m.catalog.Apply(first.ops)})
	return first.ticket, true
}

func (m *model) take(ticket uint64) (api.Outcome, int) {
	if m.place(ticket) >= 0 {
		return api.Outcome{}, 1
	}
	at := slices.IndexFunc(m.done, func(r result) bool { return r.ticket == ticket })
	if at < 0 {
		return api.Outcome{}, 0
	}
	outcome := m.done[at].outcome
	m.done = slices.Delete(m.done, at, at+1)
	return outcome, 2
}

// trial plays a queue and a model alike, and fails where they answer unlike.
type trial struct {
	*testing.T
	queue   *Queue
	catalog *catalog.Catalog
	model   *model
	played  []string
}

func newTrial(t *testing.T, most int) *trial {
	t.Helper()
	return &trial{T: t, queue: New(most), catalog: catalog.New(1), model: &model{most: most, catalog: catalog.New(1)}}
}

func (r *trial) unlike(what string, got, want any) {
	r.Helper()
	r.Fatalf("%s behind %v: %+v, not %+v", what, r.played, got, want)
}

// waits: as many lists wait as the model says. Nothing but what is asked for later is kept.
func (r *trial) waits(what string) {
	r.Helper()
	if got, want := r.queue.Waiting(), len(r.model.line); got != want {
		r.unlike("Waiting", got, want)
	}
	if got, want := len(r.queue.waiting)+len(r.queue.outcomes), len(r.model.line)+len(r.model.done); got != want {
		r.unlike("what is kept", got, want)
	}
	r.played = append(r.played, what)
}

func (r *trial) submit(ops ...api.Op) uint64 {
	r.Helper()
	want, why := r.model.submit(ops)
	waiting := len(r.model.line)
	got, err := r.queue.Submit(ops)
	if got != want {
		r.unlike("Submit", got, want)
	}
	if why == nil && err != nil {
		r.unlike("Submit", err, why)
	}
	if why != nil {
		refused(r.T, err, waiting, why)
	}
	r.waits("submit")
	return got
}

func (r *trial) step() uint64 {
	r.Helper()
	want, wantOk := r.model.step()
	got, ok := r.queue.Step(r.catalog)
	if got != want || ok != wantOk {
		r.unlike("Step", got, want)
	}
	if r.catalog.Index() != r.model.catalog.Index() {
		r.unlike("the catalog's index", r.catalog.Index(), r.model.catalog.Index())
	}
	r.waits("step")
	return got
}

func (r *trial) withdraw(ticket uint64) bool {
	r.Helper()
	want := r.model.withdraw(ticket)
	got := r.queue.Withdraw(ticket)
	if got != want {
		r.unlike("Withdraw("+told(ticket)+")", got, want)
	}
	r.waits("withdraw " + told(ticket))
	return got
}

func (r *trial) take(ticket uint64) (api.Outcome, int) {
	r.Helper()
	want, wantState := r.model.take(ticket)
	got, state := r.queue.Take(ticket)
	if got != want {
		r.unlike("Take("+told(ticket)+")", got, want)
	}
	if state != wantState {
		r.unlike("the state of "+told(ticket), state, wantState)
	}
	r.waits("take " + told(ticket))
	return got, state
}

func (r *trial) close() {
	r.Helper()
	r.model.closed = true
	r.queue.Close()
	r.waits("close")
}

// end: works the queue off, takes all outcomes, twice, and holds the catalogs against each other.
func (r *trial) end() {
	r.Helper()
	for range len(r.model.line) + 1 {
		r.step()
	}
	for ticket := range r.model.tickets + 2 {
		r.take(ticket)
		r.take(ticket)
		r.withdraw(ticket)
	}
	if got, want := r.catalog.View().Nodes(), r.model.catalog.View().Nodes(); !slices.Equal(got, want) {
		r.unlike("the nodes", got, want)
	}
}

func told(ticket uint64) string { return strconv.FormatUint(ticket, 10) }

// refused: the error is a Refusal with that count, for that very reason.
func refused(t *testing.T, err error, waiting int, why error) {
	t.Helper()
	r, ok := err.(*Refusal)
	if !ok || r == nil {
		t.Fatalf("%v is no *Refusal", err)
	}
	if r.Waiting != waiting || r.Err != why {
		t.Fatalf("%+v, not %d, %v", r, waiting, why)
	}
	if !errors.Is(err, why) || err.Error() != "queue: "+why.Error() {
		t.Fatalf("%v, not %v", err, why)
	}
}

// Ready operations.

func node(name, addr string) api.Op {
	return api.Op{Kind: api.OpNode, Node: api.Node{Name: name, Addr: addr}}
}

func service(node, id, name string, port int, tags ...string) api.Op {
	return api.Op{Kind: api.OpService, Service: api.Service{Node: node, Id: id, Name: name, Port: port, Tags: tags}}
}

func check(node, id, service string, status int, note string) api.Op {
	return api.Op{Kind: api.OpCheck, Check: api.Check{Node: node, Id: id, Service: service, Status: status, Note: note}}
}

func dropNode(name string) api.Op {
	return api.Op{Kind: api.DropNode, Node: api.Node{Name: name}}
}
