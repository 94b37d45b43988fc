package sched

import (
	"slices"
	"strconv"
	"strings"
	"testing"
)

// tale is what actors put down of what they are called for: r0 for Ready of actor 0, s0 for its Step.
type tale []string

func (t *tale) tell(what string, number int) { *t = append(*t, what+strconv.Itoa(number)) }

func (t *tale) holds(test *testing.T, want string) {
	test.Helper()
	if got := strings.Join(*t, " "); got != want {
		test.Errorf("%q, not %q", got, want)
	}
	*t = nil
}

// player is an actor that has so many steps to do, and tells.
type player struct {
	tale   *tale
	number int
	left   int
	// ready, if it is there, says more than left; step is done at each step.
	ready func() bool
	step  func()
}

func (p *player) Ready() bool {
	p.tale.tell("r", p.number)
	if p.ready != nil {
		return p.ready()
	}
	return p.left > 0
}

func (p *player) Step() {
	p.tale.tell("s", p.number)
	p.left--
	if p.step != nil {
		p.step()
	}
}

// players: one for each number of steps.
func players(told *tale, left ...int) []Actor {
	var all []Actor
	for i, n := range left {
		all = append(all, &player{tale: told, number: i, left: n})
	}
	return all
}

func ran(t *testing.T, got, want int) {
	t.Helper()
	if got != want {
		t.Errorf("%d steps were done, not %d", got, want)
	}
}

// P17.4: all are asked, each once, in their order, ahead of each step; and so until none is ready.
func TestRunAsksAllInOrder(t *testing.T) {
	var told tale
	ran(t, Run(players(&told, 1, 0, 2), New([]int{1}, 9), 100), 3)
	told.holds(t, "r0 r1 r2 s2 r0 r1 r2 s0 r0 r1 r2 s2 r0 r1 r2")
	ran(t, Run(players(&told, 0, -1), New([]int{1}, 9), 100), 0)
	told.holds(t, "r0 r1")
}

// P17.4: fewer than most steps were done; nobody is asked behind the last one.
func TestRunMost(t *testing.T) {
	var told tale
	for _, most := range []int{leastInt, -1, 0} {
		c := New([]int{1}, 9)
		ran(t, Run(players(&told, 5, 5), c, most), 0)
		told.holds(t, "")
		if c.Left() != 1 {
			t.Error("a pick is used")
		}
	}
	ran(t, Run(players(&told, 5, 5), New([]int{1}, 9), 1), 1)
	told.holds(t, "r0 r1 s1")
	ran(t, Run(players(&told, 1, 1), New(nil, 9), 2), 2)
	told.holds(t, "r0 r1 s0 r0 r1 s1")
	ran(t, Run(players(&told, 1, 1), New(nil, 9), 3), 2)
	told.holds(t, "r0 r1 s0 r0 r1 s1 r0 r1")
	ran(t, Run(players(&told, 1, 1), New(nil, 9), lastInt), 2)
}

// P17.4: no actors.
func TestRunNobody(t *testing.T) {
	c := New([]int{1}, 1)
	ran(t, Run(nil, c, 100), 0)
	ran(t, Run([]Actor{}, c, 100), 0)
	ran(t, Run(nil, c, lastInt), 0)
	if c.Left() != 1 {
		t.Error("a pick is used")
	}
}

// P17.4: whether an actor is ready is asked anew for each step: others' steps may change it.
func TestRunReadyMayChange(t *testing.T) {
	var told tale
	budget := 5
	var all []Actor
	for i := range 3 {
		all = append(all, &player{tale: &told, number: i, ready: func() bool { return budget > 0 }, step: func() { budget-- }})
	}
	ran(t, Run(all, New([]int{2, 2, 2}, 2), 100), 5)
	told = slices.DeleteFunc(told, func(what string) bool { return what[0] == 'r' })
	told.holds(t, "s2 s2 s0 s1 s2")
	// 1 wakes 0, and 0 puts 1 to sleep.
	awake := [2]int{0, 1}
	first := &player{tale: &told, number: 0, ready: func() bool { return awake[0] > 0 }, step: func() { awake = [2]int{} }}
	second := &player{tale: &told, number: 1, ready: func() bool { return awake[1] > 0 }, step: func() { awake[0]++ }}
	ran(t, Run([]Actor{first, second}, New([]int{0, 1, 0}, 9), 100), 3)
	told.holds(t, "r0 r1 s1 r0 r1 s1 r0 r1 s0 r0 r1")
}

// P17.4: a chooser goes on with the next run as it stands: its picks, who was last, the ages.
func TestRunsShareChooser(t *testing.T) {
	var told tale
	c := New([]int{2, 2, 2, 2, 2}, 3)
	some := players(&told, 50, 50, 50)
	ran(t, Run(some, c, 2), 2)
	ran(t, Run(some, c, 3), 3)
	if c.Left() != 2 {
		t.Error(c.Left())
	}
	chooses(t, c, all("xxx", 4), 2, 2, 0, 1)
	ran(t, Run(some, c, 2), 2)
	told = slices.DeleteFunc(told, func(what string) bool { return what[0] == 'r' })
	told.holds(t, "s2 s2 s2 s0 s1 s2 s0")
}

// P17.4: the chooser chooses as long as some actor is ready, and no more: behind a run that ended as none was, its ages are those of the last step.
func TestRunEndIsNoCall(t *testing.T) {
	var told tale
	budget := 1
	var some []Actor
	for i := range 2 {
		some = append(some, &player{tale: &told, number: i, ready: func() bool { return budget > 0 }, step: func() { budget-- }})
	}
	c := New([]int{0, 0}, 1)
	ran(t, Run(some, c, 100), 1)
	told.holds(t, "r0 r1 s0 r0 r1")
	chooses(t, c, all("xx", 1), 1)
	if c.Left() != 1 {
		t.Error(c.Left())
	}
}

// P1: an actor that isn't there is never ready; the others do their steps.
func TestRunNilActors(t *testing.T) {
	var told tale
	some := players(&told, 1, 2, 1)
	some[1] = nil
	ran(t, Run(some, New([]int{1}, 1), 100), 2)
	told.holds(t, "r0 r2 s2 r0 r2 s0 r0 r2")
	ran(t, Run(make([]Actor, 5), New([]int{1}, 1), lastInt), 0)
}

// P1: what an actor panics with doesn't come out of the run: it ends with the steps that were done.
func TestRunActorPanics(t *testing.T) {
	var told tale
	some := players(&told, 9, 9, 9)
	some[1].(*player).step = func() { panic("a step that fails") }
	ran(t, Run(some, New([]int{0, 2, 1}, 9), 100), 2)
	told.holds(t, "r0 r1 r2 s0 r0 r1 r2 s2 r0 r1 r2 s1")
	some = players(&told, 9, 9, 9)
	asked := 0
	some[1].(*player).ready = func() bool {
		asked++
		return 1/(4-asked) < 99
	}
	ran(t, Run(some, New(nil, 9), 100), 3)
	told.holds(t, "r0 r1 r2 s0 r0 r1 r2 s1 r0 r1 r2 s2 r0 r1")
	var nobody *player
	ran(t, Run([]Actor{some[0], nobody}, New(nil, 9), 100), 0)
}

// What is handed in isn't changed, spare room included.
func TestRunLeavesItsActors(t *testing.T) {
	var told tale
	some := players(&told, 1, 2, 3, 4)
	kept := slices.Clone(some)
	ran(t, Run(some[:3], New(nil, 2), 100), 6)
	if !slices.Equal(some, kept) {
		t.Error("the list of actors is changed")
	}
}

// The same actor at two places is asked twice.
func TestRunSameActorTwice(t *testing.T) {
	var told tale
	one := players(&told, 3)[0]
	ran(t, Run([]Actor{one, one}, New([]int{1}, 9), 100), 3)
	told.holds(t, "r0 r0 s0 r0 r0 s0 r0 r0 s0 r0 r0")
}
