package queue

import (
	"math/rand"
	"strconv"
	"testing"

	"muster/api"
)

// moves: what may be done next in a short play. Lists come to other outcomes from one to the next: changed, nothing changed, refused.
func moves() []func(*trial) {
	list := []func(*trial){
		func(r *trial) {
			switch r.model.tickets % 3 {
			case 0:
				r.submit(node("n"+strconv.Itoa(len(r.played)), home))
			case 1:
				r.submit(dropNode("nobody"))
			case 2:
				r.submit(node("a", home), node("_", home))
			}
		},
		func(r *trial) { r.step() },
		func(r *trial) { r.close() },
	}
	for ticket := uint64(1); ticket <= 3; ticket++ {
		list = append(list, func(r *trial) { r.withdraw(ticket) }, func(r *trial) { r.take(ticket) })
	}
	return list
}

// Every short play, of queues of each small size, goes as the model says.
func TestAllShortPlays(t *testing.T) {
	const length = 4
	all := moves()
	count := 1
	for range length {
		count *= len(all)
	}
	for most := -1; most <= 2; most++ {
		for play := range count {
			r := newTrial(t, max(most, 0))
			r.queue = New(most)
			// Something is there to work with: else most short plays come to nothing.
			all[0](r)
			all[0](r)
			for rest, i := play, 0; i < length; i++ {
				all[rest%len(all)](r)
				rest /= len(all)
			}
			r.end()
		}
	}
}

func TestLongRandomPlays(t *testing.T) {
	for seed := range int64(60) {
		rnd := rand.New(rand.NewSource(seed))
		r := newTrial(t, rnd.Intn(12))
		for range 400 {
			r.played = nil
			randomMove(rnd, r)
		}
		r.end()
	}
}

func randomMove(rnd *rand.Rand, r *trial) {
	// Mostly one of the tickets given last: the others are long through.
	ticket := r.model.tickets - uint64(rnd.Intn(15)) + 2
	switch n := rnd.Intn(100); {
	case n < 40:
		r.submit(randomList(rnd)...)
	case n < 62:
		r.step()
	case n < 72:
		r.withdraw(ticket)
	case n < 99:
		r.take(ticket)
	case rnd.Intn(6) == 0:
		r.close()
	}
}

// randomList: few names, so that lists meet; some change nothing, some are refused.
func randomList(rnd *rand.Rand) []api.Op {
	var ops []api.Op
	for range rnd.Intn(4) {
		name := []string{"a", "B", "c-1", "_"}[rnd.Intn(40)%11%4]
		addr := []string{home, other}[rnd.Intn(2)]
		switch rnd.Intn(5) {
		case 0, 1:
			ops = append(ops, node(name, addr))
		case 2:
			ops = append(ops, service(name, "s", "web", 80+rnd.Intn(2), "x", "y"))
		case 3:
			ops = append(ops, check(name, "c", "", 1+rnd.Intn(3), addr))
		case 4:
			ops = append(ops, dropNode(name))
		}
	}
	return ops
}

// Lists are withdrawn from either end of a long line, and passed over, without going through all the others each time.
func TestLongLine(t *testing.T) {
	const many = 300000
	q := New(many)
	ops := []api.Op{node("a", home)}
	within(t, "the line is too long", func() {
		for i := range uint64(many) {
			if ticket, err := q.Submit(ops); ticket != i+1 || err != nil {
				t.Errorf("%d, %v", ticket, err)
				return
			}
		}
		_, err := q.Submit(ops)
		if r, ok := err.(*Refusal); !ok || r.Waiting != many || r.Err != api.ErrFull {
			t.Errorf("%+v", err)
		}
		for i := range uint64(many/2 - 1) {
			if !q.Withdraw(i+1) || !q.Withdraw(many-i) {
				t.Errorf("%d waits no more", i+1)
				return
			}
		}
	})
	r := newTrial(t, many)
	r.queue = q
	if ticket, ok := q.Step(r.catalog); ticket != many/2 || !ok || q.Waiting() != 1 {
		t.Error(ticket, ok, q.Waiting())
	}
	if ticket, ok := q.Step(r.catalog); ticket != many/2+1 || !ok || q.Waiting() != 0 {
		t.Error(ticket, ok, q.Waiting())
	}
	if ticket, ok := q.Step(r.catalog); ticket != 0 || ok {
		t.Error(ticket, ok)
	}
	if ticket, err := q.Submit(ops); ticket != many+1 || err != nil {
		t.Error(ticket, err)
	}
	if ticket, ok := q.Step(r.catalog); ticket != many+1 || !ok {
		t.Error(ticket, ok)
	}
}
