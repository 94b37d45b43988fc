package crowd

import (
	"math"
	"math/rand"
	"slices"
	"strconv"
	"sync"
	"testing"
	"testing/synctest"
	"time"

	"muster/api"
	"muster/catalog"
)

// holdRace: Race leaves what Apply, one list after the other, does, and finds nothing torn.
func holdRace(t *testing.T, first uint64, lists [][]api.Op, readers int) {
	t.Helper()
	c, twin := catalog.New(first), catalog.New(first)
	within(t, "Race doesn't end", func() {
		got, err := Race(c, lists, readers)
		if err != api.OK || !slices.Equal(got, make([]uint64, readers)) {
			t.Errorf("%d readers, %d lists: %v, %d", readers, len(lists), got, err)
		}
	})
	applyAll(twin, lists)
	holdTold(t, c, told(twin.View()))
}

func TestRaceAllNumbers(t *testing.T) {
	var lists [][]api.Op
	for i := range 12 {
		lists = append(lists, []api.Op{node("n"+strconv.Itoa(i%5), "10.0.0."+strconv.Itoa(i))})
	}
	for readers := 1; readers <= api.MaxWorkers; readers++ {
		for _, count := range []int{0, 1, 12} {
			holdRace(t, 1, lists[:count], readers)
		}
	}
}

func TestRaceNothing(t *testing.T) {
	c := filled(t, 1, []api.Op{node("n", home)})
	for _, lists := range [][][]api.Op{nil, {}, {nil}, {{}, {{}}}} {
		holdUntouched(t, c, func() {
			if got, err := Race(c, lists, 3); !slices.Equal(got, make([]uint64, 3)) || err != api.OK {
				t.Errorf("%v, %d", got, err)
			}
		})
	}
}

func TestRaceWrongReaders(t *testing.T) {
	for _, readers := range wrongWorkers {
		for _, lists := range [][][]api.Op{nil, {nil}, {{node("m", home)}}, {{{}}, {dropNode("n")}}} {
			c := filled(t, 1, []api.Op{node("n", home)})
			holdUntouched(t, c, func() {
				if got, err := Race(c, lists, readers); len(got) != 0 || err != api.ErrWorkers {
					t.Errorf("%d readers: %v, %d", readers, got, err)
				}
			})
		}
	}
}

// Lists of all kinds, wrong ones, empty ones and too long ones among them, from low and from high indexes.
func TestRaceRandomLists(t *testing.T) {
	for seed := range int64(12) {
		rnd := rand.New(rand.NewSource(seed))
		first := pick[uint64](rnd, 0, 1, 1000, math.MaxUint64-20)
		holdRace(t, first, randomLists(rnd, 150, first), pick(rnd, 1, 2, 3, 8, 64))
	}
}

// While others write, too, no view is torn.
func TestRaceWhileOthersWrite(t *testing.T) {
	const writers, count = 3, 80
	c := catalog.New(1)
	var all sync.WaitGroup
	for w := range writers {
		var lists [][]api.Op
		for i := range count {
			lists = append(lists, []api.Op{node("n"+strconv.Itoa(w)+"-"+strconv.Itoa(i%9), "10."+strconv.Itoa(i)+".0.1")})
		}
		all.Go(func() {
			if got, err := Race(c, lists, 1+w); err != api.OK || !slices.Equal(got, make([]uint64, 1+w)) {
				t.Errorf("%v, %d", got, err)
			}
		})
	}
	within(t, "the Races don't end", all.Wait)
	if c.Index() != 1+writers*count {
		t.Errorf("index %d", c.Index())
	}
}

// A view is torn if its index is less than the last one's, or less than some node's Changed.
func TestIsTorn(t *testing.T) {
	at := func(changed ...uint64) []api.Node {
		var nodes []api.Node
		for _, index := range changed {
			// Made tells nothing.
			nodes = append(nodes, api.Node{Name: "n", Made: math.MaxUint64, Changed: index})
		}
		return nodes
	}
	for _, x := range []struct {
		last, index uint64
		nodes       []api.Node
		want        bool
	}{
		{0, 0, nil, false},
		{0, 1, nil, false},
		{1, 1, nil, false},
		{1, 2, nil, false},
		{2, 1, nil, true},
		{1, 0, at(), true},
		{math.MaxUint64, math.MaxUint64 - 1, nil, true},
		{math.MaxUint64 - 1, math.MaxUint64, nil, false},
		{1, math.MaxUint64, at(math.MaxUint64), false},
		{0, 5, at(5), false},
		{0, 5, at(4), false},
		{0, 5, at(6), true},
		{0, 5, at(math.MaxUint64), true},
		{0, 1 << 63, at(1<<63 + 1), true},
		{0, 5, at(6, 1, 2), true},
		{0, 5, at(1, 6, 2), true},
		{0, 5, at(1, 2, 6), true},
		{5, 5, at(1, 2, 5), false},
		{6, 5, at(1, 2, 5), true},
		{6, 5, at(6), true},
	} {
		if got := isTorn(x.last, x.index, x.nodes); got != x.want {
			t.Errorf("last %d, index %d, %+v: %v", x.last, x.index, x.nodes, got)
		}
	}
}

// A reader holds each view against the one before it, and counts on.
func TestLook(t *testing.T) {
	c := filled(t, 1, []api.Op{node("n", home)}, []api.Op{node("m", home)})
	r := reader{catalog: c}
	for range 3 {
		r.look()
		if r.last != 3 || r.torn != 0 {
			t.Fatalf("%+v", r)
		}
	}
	c.Apply([]api.Op{node("n", other)})
	if r.look(); r.last != 4 || r.torn != 0 {
		t.Fatalf("%+v", r)
	}
	for torn := uint64(1); torn < 5; torn++ {
		r.last = 5
		if r.look(); r.last != 4 || r.torn != torn {
			t.Fatalf("%+v, not torn %d times", r, torn)
		}
		if r.look(); r.torn != torn {
			t.Fatalf("%+v, not torn %d times", r, torn)
		}
	}
}

// A reader looks on until the channel is closed, and sees what is committed meanwhile.
func TestLookUntil(t *testing.T) {
	c := catalog.New(1)
	closed := make(chan struct{})
	close(closed)
	r := reader{catalog: c, last: 9}
	if r.lookUntil(closed); r.last != 1 || r.torn != 1 {
		t.Errorf("%+v", r)
	}
	through, ended := make(chan struct{}), make(chan struct{})
	r = reader{catalog: c, last: 9}
	go func() {
		defer close(ended)
		r.lookUntil(through)
	}()
	select {
	case <-ended:
		t.Fatal("the reader has stopped")
	case <-time.After(20 * time.Millisecond):
	}
	c.Apply([]api.Op{node("n", home)})
	time.Sleep(20 * time.Millisecond)
	close(through)
	within(t, "the reader doesn't stop", func() { <-ended })
	if r.last != 2 || r.torn != 1 {
		t.Errorf("%+v", r)
	}
}

// What is handed in isn't changed, spare room included.
func TestRaceLeavesItsArguments(t *testing.T) {
	spare := api.Op{Kind: 9, Service: api.Service{Tags: []string{"spare"}}}
	lists := roomy([][]api.Op{
		roomy([]api.Op{node("N", home), service("N", "S", "Web", 80, roomy([]string{"b", "A", "a"}, "Z")...)}, spare),
		roomy([]api.Op{node("-", home)}, spare),
	}, []api.Op{spare})
	before := toldOps(lists)
	c := catalog.New(1)
	got, err := Race(c, lists, 4)
	if err != api.OK || toldOps(lists) != before {
		t.Fatal("Race has changed what it was given", err)
	}
	scrawl(got, 7)
	shown := told(c.View())
	for _, ops := range lists {
		for _, o := range ops {
			scrawl(o.Service.Tags, "?")
		}
		scrawl(ops, api.Op{})
	}
	holdTold(t, c, shown)
	if got, _ := Race(c, nil, 4); !slices.Equal(got, make([]uint64, 4)) {
		t.Error(got)
	}
}

// P1, P16.3: so many readers as are asked for, all gone when the call answers; none at all for a call that is refused.
func TestRaceGoroutines(t *testing.T) {
	lists := slices.Repeat([][]api.Op{{node("n", home)}, {node("n", other)}, {dropNode("n"), {}}}, 60)
	c := catalog.New(1)
	for _, readers := range []int{1, 2, 5} {
		holdAtWork(t, "Race", readers, func() { Race(c, lists, readers) })
	}
	holdAtWork(t, "Race", 0, func() { Race(c, lists, 65) })
	holdOneApplies(t, "Race", func() { Race(c, lists, 2) })
	holdJoined(t, "Race", func() { Race(c, lists[:2], 8) })
	for _, count := range []int{0, 1, 30} {
		for _, readers := range someWorkers {
			synctest.Test(t, func(t *testing.T) { Race(catalog.New(1), lists[:count], readers) })
		}
	}
}
