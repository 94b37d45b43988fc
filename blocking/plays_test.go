package blocking

import (
	"math/rand"
	"testing"

	"muster/api"
)

// moves: what may be done next in a short play.
func moves() []func(*trial) {
	list := []func(*trial){
		func(r *trial) { r.ask(api.Query{Kind: api.AskNodes, Min: uint64(r.model.last() + 1), Wait: 1}) },
		func(r *trial) { r.newNode() },
		func(r *trial) { r.newCheck() },
		func(r *trial) { r.advance(r.model.now + 1) },
	}
	for id := 1; id <= 2; id++ {
		list = append(list,
			func(r *trial) { r.step(id) },
			func(r *trial) { r.cancel(id) },
			func(r *trial) { r.take(id) })
	}
	return list
}

// Every short play goes as the model says, from an engine on that has a query in its first steps.
func TestAllShortPlays(t *testing.T) {
	const length = 4
	all := moves()
	count := 1
	for range length {
		count *= len(all)
	}
	for steps := range 3 {
		for play := range count {
			r := newTrial(t, 1+play%2)
			r.commit([]string{"nodes"}, node("a"))
			r.ask(api.Query{Kind: []int{api.AskNodes, api.AskNode}[play/2%2], Min: 2, Wait: 2})
			for range steps {
				r.step(1)
			}
			for rest, i := play, 0; i < length; i++ {
				all[rest%len(all)](r)
				rest /= len(all)
			}
			r.end()
		}
	}
}

func TestLongRandomPlays(t *testing.T) {
	for seed := range int64(60) {
		rnd := rand.New(rand.NewSource(seed))
		first := []uint64{1, 1, 1000, lastTime - 20}[rnd.Intn(4)]
		r := newTrialFrom(t, []int{0, 1, 4, 10, 30}[rnd.Intn(5)], first)
		r.commit([]string{"nodes"}, node("a"))
		for range 400 {
			r.played = nil
			randomMove(rnd, r)
		}
		r.end()
	}
}

// randomMove: most of it goes to the queries that came last, as these are open.
func randomMove(rnd *rand.Rand, r *trial) {
	id := len(r.model.queries) - rnd.Intn(12)
	exhausted := r.catalog.Index() == lastTime
	switch n := rnd.Intn(100); {
	case n < 20:
		r.ask(randomQuery(rnd, r.catalog.Index()))
	case n < 65:
		r.step(id)
	case n < 70:
		r.cancel(id)
	case n < 80:
		r.take(id)
	case n < 88 && !exhausted:
		[]func(){r.newNode, r.newService, r.newCheck}[rnd.Intn(3)]()
	case n < 91:
		r.commit(nil, dropNode("nobody"))
	case n < 93:
		r.advance(r.model.now - min(r.model.now, 1))
	case n < 94:
		r.advance(r.model.now)
	case n < 99:
		r.advance(r.model.now + uint64(rnd.Intn(90)))
	default:
		if at, ok := r.engine.Next(); ok {
			r.advance(at)
		}
	}
}

func randomQuery(rnd *rand.Rand, index uint64) api.Query {
	q := api.Query{
		Kind:    rnd.Intn(8),
		Name:    []string{"", "a", "web", "nobody"}[rnd.Intn(4)],
		Passing: rnd.Intn(2) == 0,
		Status:  rnd.Intn(4),
		Wait:    []uint64{0, 1, 10, 100, 600, lastTime}[rnd.Intn(6)],
	}
	switch rnd.Intn(8) {
	case 0:
		q.Min = 0
	case 1:
		q.Min = lastTime
	case 2:
		q.Min = index - 1
	case 3:
		q.Min = index + uint64(rnd.Intn(4))
	default:
		q.Min = index
	}
	return q
}
