package sched

import (
	"fmt"
	"slices"
	"testing"
)

// The ends of what a pick, a bound or a count may be.
const (
	leastInt = -1 << 63
	lastInt  = 1<<63 - 1
)

// call is one call of Next: who was ready, and who was chosen (-1: nobody).
type call struct {
	ready  []bool
	chosen int
}

// model is a plain chooser, which remembers every call and reads all else from that.
type model struct {
	picks []int
	bound int
	calls []call
}

// age counts back, call by call, as the chapter's words have it.
func (m *model) age(actor int) int {
	age := 0
	for _, past := range slices.Backward(m.calls) {
		if actor >= len(past.ready) || !past.ready[actor] || past.chosen == actor {
			break
		}
		age++
	}
	return age
}

// last: who was chosen last; -1: nobody was yet.
func (m *model) last() int {
	for _, past := range slices.Backward(m.calls) {
		if past.chosen >= 0 {
			return past.chosen
		}
	}
	return -1
}

// next: who is chosen, or -1, and by which of the three rules (0: none is ready).
func (m *model) next(ready []bool) (chosen, rule int) {
	chosen, rule = m.choose(ready)
	m.calls = append(m.calls, call{slices.Clone(ready), chosen})
	return chosen, rule
}

func (m *model) choose(ready []bool) (chosen, rule int) {
	var those []int
	for i := range ready {
		if ready[i] {
			those = append(those, i)
		}
	}
	if len(those) == 0 {
		return -1, 0
	}
	byAge := slices.Clone(those)
	slices.SortStableFunc(byAge, func(a, b int) int { return m.age(b) - m.age(a) })
	if m.age(byAge[0]) >= max(m.bound, 1) {
		return byAge[0], 1
	}
	if len(m.picks) > 0 {
		pick := m.picks[0]
		m.picks = m.picks[1:]
		return those[modulo(pick, len(those))], 2
	}
	last := m.last()
	for _, i := range those {
		if i > last {
			return i, 3
		}
	}
	return those[0], 3
}

// modulo: the one number from 0 to n - 1 that lies a multiple of n away from p; sought there, not reckoned.
func modulo(p, n int) int {
	for place := range n {
		// In parts, so that no difference leaves the numbers.
		if (p/n*n-p+place)%n == 0 {
			return place
		}
	}
	panic("no place")
}

// trial plays a chooser and a model alike, and fails where they answer unlike.
type trial struct {
	*testing.T
	chooser *Chooser
	model   *model
	made    string
	rules   [4]int // how often each of them has chosen
}

func newTrial(t *testing.T, picks []int, bound int) *trial {
	return &trial{T: t, chooser: New(picks, bound), model: &model{picks: slices.Clone(picks), bound: bound}, made: fmt.Sprintf("New(%v, %d)", picks, bound)}
}

// next: Next of this list, with spare room; who is chosen, -1 if nobody is.
func (r *trial) next(ready ...bool) int {
	r.Helper()
	handed := append(slices.Clone(ready), true, false, true)
	kept := slices.Clone(handed)
	got, ok := r.chooser.Next(handed[:len(ready)])
	want, rule := r.model.next(ready)
	r.rules[rule]++
	if ok != (want >= 0) || got != max(want, 0) {
		r.Fatalf("%s behind %v: Next(%v): %d, %v, not %d", r.made, r.model.calls[:len(r.model.calls)-1], ready, got, ok, want)
	}
	if !slices.Equal(handed, kept) {
		r.Fatalf("Next has changed the list %v to %v", kept, handed)
	}
	if left := r.chooser.Left(); left != len(r.model.picks) {
		r.Fatalf("%s behind %v: %d picks left, not %d", r.made, r.model.calls, left, len(r.model.picks))
	}
	for i := range handed {
		handed[i] = !handed[i]
	}
	return want
}

// chooses: Next of each of the lists, which are written as words ("x.x": 0 and 2 are ready), chooses these.
func chooses(t *testing.T, c *Chooser, lists []string, want ...int) {
	t.Helper()
	var got []int
	for _, list := range lists {
		i, ok := c.Next(readyOf(list))
		if !ok {
			if i != 0 {
				t.Errorf("%d, beside false", i)
			}
			i = -1
		}
		got = append(got, i)
	}
	if !slices.Equal(got, want) {
		t.Errorf("%v: %v, not %v", lists, got, want)
	}
}

func readyOf(list string) []bool {
	var ready []bool
	for _, r := range list {
		ready = append(ready, r == 'x')
	}
	return ready
}

// all: the same list so many times.
func all(list string, times int) []string { return slices.Repeat([]string{list}, times) }
