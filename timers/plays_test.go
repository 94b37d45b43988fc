package timers

import (
	"math/rand"
	"testing"
	"time"

	"muster/api"
)

// moves: what may be done next in a short play.
func moves() []func(*trial) {
	var list []func(*trial)
	for id := range 3 {
		list = append(list, func(r *trial) { r.stop(id) })
		for at := range uint64(3) {
			list = append(list, func(r *trial) { r.set(id, at) })
		}
	}
	for now := range uint64(3) {
		list = append(list, func(r *trial) { r.advance(now) })
	}
	return list
}

// Every short play, of wheels of each small size, goes as the model says.
func TestAllShortPlays(t *testing.T) {
	const length = 4
	all := moves()
	count := 1
	for range length {
		count *= len(all)
	}
	for most := -1; most <= 3; most++ {
		for play := range count {
			r := newTrial(t, max(most, 0))
			r.wheel = New(most)
			for rest, i := play, 0; i < length; i++ {
				all[rest%len(all)](r)
				rest /= len(all)
			}
			r.end()
		}
	}
}

func TestLongRandomPlays(t *testing.T) {
	for seed := range int64(80) {
		rnd := rand.New(rand.NewSource(seed))
		most := []int{0, 1, 4, 16, 60, 1000}[rnd.Intn(6)]
		r := newTrial(t, most)
		span := []uint64{2, 10, 1000, 1 << 62}[rnd.Intn(4)]
		for range 800 {
			r.played = nil
			randomMove(rnd, r, span)
		}
		r.end()
	}
}

// randomMove: ids are few, so that they meet; times lie about the clock, behind it too.
func randomMove(rnd *rand.Rand, r *trial, span uint64) {
	id := rnd.Intn(90) - 10
	at := After(r.model.now, rnd.Uint64()%span)
	switch n := rnd.Intn(100); {
	case n < 58:
		r.set(id, at)
	case n < 64:
		r.set(id, at-min(at, span))
	case n < 85:
		r.stop(id)
	case n < 88:
		r.advance(r.model.now)
	case n < 90:
		r.advance(r.model.now - min(r.model.now, 1))
	case span < 1<<62:
		r.advance(After(r.model.now, rnd.Uint64()%(span/2+1)))
	case rnd.Intn(40) == 0:
		r.advance(at)
	}
}

// One is set, stopped and fired among very many without going through all the others each time.
func TestManyTimers(t *testing.T) {
	const many = 200000
	began := time.Now()
	w := New(many)
	for id := range many {
		if e := w.Set(id, uint64(id*7919%many)); e != api.OK {
			t.Fatal(id, e)
		}
	}
	sets(t, w, many, 0, api.ErrTimers)
	for id := 0; id < many; id += 2 {
		if !w.Stop(id) {
			t.Fatal(id)
		}
	}
	fired := 0
	for now := uint64(0); w.Len() > 0; now++ {
		ids, e := w.Advance(now)
		if e != api.OK || len(ids) > 1 || len(ids) == 1 && (ids[0]%2 == 0 || uint64(ids[0]*7919%many) != now) {
			t.Fatal(now, ids, e)
		}
		fired += len(ids)
	}
	if fired != many/2 {
		t.Error(fired)
	}
	if took := time.Since(began); took > time.Minute {
		t.Error(took)
	}
}
