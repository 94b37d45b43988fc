package timers

import (
	"slices"
	"strconv"
	"testing"

	"muster/api"
)

// The ends of what a time, an id or a room may be.
const (
	lastTime = 1<<64 - 1
	leastInt = -1 << 63
	lastInt  = 1<<63 - 1
)

// model is a plain wheel: the pending timers in a list, in the order in which they were set.
type model struct {
	most int
	now  uint64
	list []alarm
}

type alarm struct {
	id int
	at uint64
}

func (m *model) place(id int) int {
	return slices.IndexFunc(m.list, func(a alarm) bool { return a.id == id })
}

func (m *model) set(id int, at uint64) int {
	switch {
	case m.place(id) >= 0:
		return 141
	case len(m.list) >= m.most:
		return 140
	}
	m.list = append(m.list, alarm{id, at})
	return 0
}

func (m *model) stop(id int) bool {
	at := m.place(id)
	if at < 0 {
		return false
	}
	m.list = slices.Delete(m.list, at, at+1)
	return true
}

// first: the place of the timer that fires first; -1: none is pending.
func (m *model) first() int {
	best := -1
	for i, a := range m.list {
		if best < 0 || a.at < m.list[best].at {
			best = i
		}
	}
	return best
}

func (m *model) next() (uint64, bool) {
	if at := m.first(); at >= 0 {
		return m.list[at].at, true
	}
	return 0, false
}

func (m *model) advance(now uint64) ([]int, int) {
	if now < m.now {
		return nil, 142
	}
	m.now = now
	var ids []int
	for at := m.first(); at >= 0 && m.list[at].at <= now; at = m.first() {
		ids = append(ids, m.list[at].id)
		m.list = slices.Delete(m.list, at, at+1)
	}
	return ids, 0
}

// trial plays a wheel and a model alike, and fails where they answer unlike.
type trial struct {
	*testing.T
	wheel  *Wheel
	model  *model
	played []string
}

func newTrial(t *testing.T, most int) *trial {
	return &trial{T: t, wheel: New(most), model: &model{most: most}}
}

func (r *trial) unlike(what string, got, want any) {
	r.Helper()
	r.Fatalf("%s behind %v: %v, not %v", what, r.played, got, want)
}

// stands: the clock, the count and the next time are as the model says, and are so however often they are asked for. Nothing is kept of timers that are pending no more.
func (r *trial) stands(what string) {
	r.Helper()
	r.played = append(r.played, what)
	for range 2 {
		if got, want := r.wheel.Now(), r.model.now; got != want {
			r.unlike("Now", got, want)
		}
		if got, want := r.wheel.Len(), len(r.model.list); got != want {
			r.unlike("Len", got, want)
		}
		got, ok := r.wheel.Next()
		want, wantOk := r.model.next()
		if got != want || ok != wantOk {
			r.unlike("Next", got, want)
		}
	}
	if len(r.wheel.byId) != len(r.model.list) || len(r.wheel.pending) != len(r.model.list) {
		r.unlike("what is kept", len(r.wheel.byId), len(r.model.list))
	}
	for _, spare := range r.wheel.pending[len(r.wheel.pending):cap(r.wheel.pending)] {
		if spare != nil {
			r.unlike("what is kept in spare room", *spare, nil)
		}
	}
}

func (r *trial) set(id int, at uint64) api.Errno {
	r.Helper()
	want := r.model.set(id, at)
	got := r.wheel.Set(id, at)
	if int(got) != want {
		r.unlike("Set("+strconv.Itoa(id)+", "+told(at)+")", int(got), want)
	}
	r.stands("set " + strconv.Itoa(id) + " " + told(at))
	return got
}

func (r *trial) stop(id int) bool {
	r.Helper()
	want := r.model.stop(id)
	got := r.wheel.Stop(id)
	if got != want {
		r.unlike("Stop("+strconv.Itoa(id)+")", got, want)
	}
	r.stands("stop " + strconv.Itoa(id))
	return got
}

func (r *trial) advance(now uint64) []int {
	r.Helper()
	want, wantErr := r.model.advance(now)
	got, err := r.wheel.Advance(now)
	if int(err) != wantErr {
		r.unlike("Advance("+told(now)+")", int(err), wantErr)
	}
	if !slices.Equal(got, want) {
		r.unlike("Advance("+told(now)+")", got, want)
	}
	r.stands("advance " + told(now))
	scribble(got)
	return want
}

// end: all that is pending fires, and nothing is left.
func (r *trial) end() {
	r.Helper()
	r.advance(lastTime)
	r.advance(lastTime)
	if r.wheel.Len() != 0 {
		r.unlike("Len at the end", r.wheel.Len(), 0)
	}
}

// scribble: writes over an answer, spare room too.
func scribble(ids []int) {
	ids = ids[:cap(ids)]
	for i := range ids {
		ids[i] = -77
	}
}

func told(n uint64) string { return strconv.FormatUint(n, 10) }
