package crowd

import (
	"fmt"
	"math"
	"math/rand"
	"slices"
	"strconv"
	"strings"
	"sync"
	"testing"
	"testing/synctest"

	"muster/api"
	"muster/catalog"
	"muster/health"
)

// someViews: views of one catalog at all its indexes, and one of another catalog.
func someViews(t *testing.T) []*catalog.View {
	t.Helper()
	c := catalog.New(5)
	views := []*catalog.View{c.View()}
	for _, ops := range [][]api.Op{
		{node("n", home), node("m", other)},
		{service("n", "s", "web", 80, "x", "y"), service("n", "t", "web", 81, "y"), service("m", "s", "db", 82)},
		{check("n", "c", "", 1, "well"), check("n", "d", "s", 2, ""), check("m", "c", "s", 3, "ill")},
		{node("n", other)},
		{check("n", "d", "s", 1, "")},
		{dropService("n", "t")},
		{dropNode("m")},
		{dropNode("n")},
	} {
		if o := c.Apply(ops); !o.Changed {
			t.Fatalf("%+v", o)
		}
		views = append(views, c.View())
	}
	return append(views, filled(t, 1000, []api.Op{node("z", home), service("z", "s", "web", 1)}).View())
}

// allAsks: all kinds of queries, and numbers that are no kind, to all of so many views.
func allAsks(views int) []api.Ask {
	var asks []api.Ask
	for view := range views {
		for _, kind := range []int{1, 2, 3, 4, 5, 6, 0, 7, -1, math.MinInt, math.MaxInt} {
			for _, name := range []string{"", "n", "m", "web", "db", "WEB", "nobody"} {
				asks = append(asks,
					api.Ask{View: view, Query: api.Query{Kind: kind, Name: name, Status: 1 + len(asks)%4, Min: 9, Wait: 9}},
					api.Ask{View: view, Query: api.Query{Kind: kind, Name: name, Tag: "x", Passing: true, Status: 1, Min: math.MaxUint64}})
			}
		}
	}
	return asks
}

// alone: each ask answered by itself: what Read is held against.
func alone(views []*catalog.View, asks []api.Ask) []api.Answer {
	var answers []api.Answer
	for _, ask := range asks {
		answers = append(answers, health.Answer(views[ask.View], ask.Query))
	}
	return answers
}

// toldAnswers: all of the answers; nil and empty lists are told alike.
func toldAnswers(answers []api.Answer) string { return fmt.Sprintf("%+v", answers) }

func TestReadAllKinds(t *testing.T) {
	views := someViews(t)
	asks := allAsks(len(views))
	want := alone(views, asks)
	for _, workers := range someWorkers {
		got, err := Read(views, asks, workers)
		if err != api.OK || len(got) != len(asks) {
			t.Fatalf("%d answers to %d asks, error %d", len(got), len(asks), err)
		}
		for i := range got {
			if toldAnswers(got[i:i+1]) != toldAnswers(want[i:i+1]) {
				t.Fatalf("%d workers, %+v: %+v, not %+v", workers, asks[i], got[i], want[i])
			}
		}
	}
}

// What a few plain asks come to, told in full: so that not all hangs on what layer 11 answers.
func TestReadPlainly(t *testing.T) {
	c := catalog.New(0)
	empty := c.View()
	c.Apply([]api.Op{node("N", home), service("n", "S", "web", 80, "b", "A")})
	full := c.View()
	n := api.Node{Name: "n", Addr: home, Made: 2, Changed: 2}
	s := api.Service{Node: "n", Id: "s", Name: "web", Port: 80, Tags: []string{"a", "b"}, Made: 2, Changed: 2}
	want := []api.Answer{
		{Index: 2, Nodes: []api.Node{n}},
		{Index: 1},
		{Index: 2, Nodes: []api.Node{n}, Services: []api.Service{s}},
		{Index: 2, Services: []api.Service{s}},
		{},
		{Index: 1},
		{Index: 2, Tallies: []api.Tally{{Name: "web", All: 1, Passing: 1}}},
		{Index: 2, Instances: []api.Instance{{Node: n, Service: s, Status: api.Passing}}},
	}
	got, err := Read([]*catalog.View{empty, full}, []api.Ask{
		{View: 1, Query: api.Query{Kind: api.AskNodes, Min: 7}},
		{View: 0, Query: api.Query{Kind: api.AskNodes}},
		{View: 1, Query: api.Query{Kind: api.AskNode, Name: "n"}},
		{View: 1, Query: api.Query{Kind: api.AskServices}},
		{View: 1},
		{View: 1, Query: api.Query{Kind: api.AskChecks, Status: 1}},
		{View: 1, Query: api.Query{Kind: api.AskNames}},
		{View: 1, Query: api.Query{Kind: api.AskHealth, Name: "web", Tag: "b"}},
	}, 3)
	if err != api.OK || toldAnswers(got) != toldAnswers(want) {
		t.Errorf("%+v, %d, not %+v", got, err, want)
	}
}

// Any number of workers with any number of asks, fewer, as many, or more: each ask is answered once, in its place.
func TestReadAllNumbers(t *testing.T) {
	c := catalog.New(1)
	views := []*catalog.View{c.View()}
	for i := range 140 {
		c.Apply([]api.Op{node("n"+strconv.Itoa(i), home)})
		views = append(views, c.View())
	}
	var asks []api.Ask
	for i := range 140 {
		// A view that tells the place, and not in the order of the places.
		view := (i*37 + 5) % 140
		asks = append(asks, api.Ask{View: view, Query: api.Query{Kind: api.AskNode, Name: "n" + strconv.Itoa(view-1)}})
	}
	for workers := 1; workers <= api.MaxWorkers; workers++ {
		for _, count := range []int{0, 1, 2, 3, workers - 1, workers, workers + 1, 2*workers - 1, 2 * workers, 2*workers + 1, 140} {
			got, err := Read(views, asks[:count], workers)
			if err != api.OK || len(got) != count {
				t.Fatalf("%d workers, %d asks: %d answers, %d", workers, count, len(got), err)
			}
			for i, a := range got {
				view := asks[i].View
				if a.Index != uint64(view+1) || len(a.Nodes) != min(view, 1) {
					t.Fatalf("%d workers, %d asks: answer %d is %+v, not of view %d", workers, count, i, a, view)
				}
			}
		}
	}
}

func TestReadNothing(t *testing.T) {
	for _, views := range [][]*catalog.View{nil, {}, someViews(t)} {
		for _, asks := range [][]api.Ask{nil, {}} {
			for _, workers := range someWorkers {
				if got, err := Read(views, asks, workers); len(got) != 0 || err != api.OK {
					t.Errorf("%+v, %d", got, err)
				}
			}
		}
	}
}

func TestReadWrongWorkers(t *testing.T) {
	views := someViews(t)
	for _, workers := range wrongWorkers {
		// A place that no view has is asked for later.
		for _, asks := range [][]api.Ask{nil, {{View: 0, Query: api.Query{Kind: api.AskNodes}}}, {{View: -1}}, {{View: len(views)}}} {
			if got, err := Read(views, asks, workers); len(got) != 0 || err != api.ErrWorkers {
				t.Errorf("%d workers, %+v: %+v, %d", workers, asks, got, err)
			}
		}
		if got, err := Read(nil, nil, workers); len(got) != 0 || err != api.ErrWorkers {
			t.Errorf("%d workers: %+v, %d", workers, got, err)
		}
	}
}

func TestReadWrongViews(t *testing.T) {
	all := someViews(t)
	for count := range len(all) + 1 {
		views := all[:count]
		for _, wrong := range []int{math.MinInt, -1 << 32, -len(all), -1, count, count + 1, 1 << 32, math.MaxInt} {
			good := slices.Repeat([]api.Ask{{Query: api.Query{Kind: api.AskNodes}}}, 9)
			if count == 0 {
				good = nil
			}
			for place := range len(good) + 1 {
				asks := slices.Insert(slices.Clone(good), place, api.Ask{View: wrong, Query: api.Query{Kind: api.AskNodes}})
				for _, workers := range []int{1, 4, 64} {
					if got, err := Read(views, asks, workers); len(got) != 0 || err != api.ErrView {
						t.Fatalf("view %d of %d, ask %d: %+v, %d", wrong, count, place, got, err)
					}
				}
			}
		}
		// The edges that there are.
		if count > 0 {
			asks := []api.Ask{{View: count - 1, Query: api.Query{Kind: api.AskNames}}, {View: 0, Query: api.Query{Kind: api.AskNodes}}}
			if got, err := Read(views, asks, 2); err != api.OK || toldAnswers(got) != toldAnswers(alone(views, asks)) {
				t.Errorf("%+v, %d", got, err)
			}
		}
	}
}

// A kind that is none gives no error, and a place that no view has gives one whatever the kind.
func TestReadWrongKinds(t *testing.T) {
	views := someViews(t)
	for _, kind := range []int{math.MinInt, -1, 0, 7, math.MaxInt} {
		if got, err := Read(views, []api.Ask{{View: 1, Query: api.Query{Kind: kind}}}, 1); err != api.OK || toldAnswers(got) != toldAnswers(make([]api.Answer, 1)) {
			t.Errorf("%+v, %d", got, err)
		}
		if got, err := Read(views, []api.Ask{{View: 99, Query: api.Query{Kind: kind}}}, 1); err != api.ErrView || len(got) != 0 {
			t.Errorf("%+v, %d", got, err)
		}
	}
}

// One view may stand at several places.
func TestReadSameViewTwice(t *testing.T) {
	v := filled(t, 1, []api.Op{node("n", home)}).View()
	views := slices.Repeat([]*catalog.View{v}, 5)
	var asks []api.Ask
	for i := range 50 {
		asks = append(asks, api.Ask{View: i % 5, Query: api.Query{Kind: api.AskNodes}})
	}
	got, err := Read(views, asks, 9)
	if err != api.OK || toldAnswers(got) != toldAnswers(alone(views, asks)) {
		t.Errorf("%+v, %d", got, err)
	}
}

// scrawlAnswer: writes over all lists of an answer.
func scrawlAnswer(a api.Answer) {
	for _, s := range a.Services {
		scrawl(s.Tags, "q")
	}
	for _, i := range a.Instances {
		scrawl(i.Checks, api.Check{Node: "q"})
		scrawl(i.Service.Tags, "q")
	}
	scrawl(a.Nodes, api.Node{Name: "q"})
	scrawl(a.Services, api.Service{Node: "q"})
	scrawl(a.Checks, api.Check{Node: "q"})
	scrawl(a.Instances, api.Instance{})
	scrawl(a.Tallies, api.Tally{Name: "q"})
}

// Answers are new memory: writing over one of them changes neither the others, like ones of one view too, nor what is answered next.
func TestReadAnswersAreNew(t *testing.T) {
	views := someViews(t)
	var asks []api.Ask
	for kind := range 8 {
		for _, name := range []string{"web", "n", "web"} {
			asks = append(asks, api.Ask{View: 3, Query: api.Query{Kind: kind, Name: name, Status: 1}})
		}
	}
	want := alone(views, asks)
	for at := range asks {
		got, _ := Read(views, asks, 4)
		scrawlAnswer(got[at])
		for i := range got {
			if i != at && toldAnswers(got[i:i+1]) != toldAnswers(want[i:i+1]) {
				t.Fatalf("answers %d and %d share memory", at, i)
			}
		}
		scrawl(got, api.Answer{})
	}
	if got, _ := Read(views, asks, 4); toldAnswers(got) != toldAnswers(want) {
		t.Error("a view has kept an answer")
	}
}

// What is handed in isn't changed, spare room included, and may be written over behind the call.
func TestReadLeavesItsArguments(t *testing.T) {
	some := someViews(t)
	views := roomy(some, nil)
	asks := roomy(allAsks(len(some)), api.Ask{View: -7})
	viewsBefore, asksBefore := slices.Clone(views[:cap(views)]), slices.Clone(asks[:cap(asks)])
	got, err := Read(views, asks, 8)
	if err != api.OK || !slices.Equal(views[:cap(views)], viewsBefore) || !slices.Equal(asks[:cap(asks)], asksBefore) {
		t.Fatal("Read has changed what it was given", err)
	}
	want := alone(views, asks)
	scrawl(views, nil)
	scrawl(asks, api.Ask{})
	if toldAnswers(got) != toldAnswers(want) {
		t.Error("the answers hang on what was handed in")
	}
}

// Random asks to views of random catalogs, while others write to these: the answers are those of the views.
func TestReadWhileOthersWrite(t *testing.T) {
	for seed := range int64(6) {
		rnd := rand.New(rand.NewSource(seed))
		c := catalog.New(1)
		var views []*catalog.View
		for _, ops := range randomLists(rnd, 120, 1) {
			c.Apply(ops)
			views = append(views, c.View())
		}
		asks := make([]api.Ask, 400)
		for i := range asks {
			asks[i] = api.Ask{View: rnd.Intn(len(views)), Query: api.Query{Kind: rnd.Intn(8), Name: pick(rnd, "", "a", "ab", "web", "db"), Tag: pick(rnd, "", "x"), Passing: rnd.Intn(2) == 0, Status: 1 + rnd.Intn(3)}}
		}
		want := toldAnswers(alone(views, asks))
		lists := randomLists(rnd, 100, 100)
		var writing sync.WaitGroup
		writing.Go(func() { applyAll(c, lists) })
		for _, workers := range someWorkers {
			if got, err := Read(views, asks, workers); err != api.OK || toldAnswers(got) != want {
				t.Fatalf("seed %d, %d workers: %d", seed, workers, err)
			}
		}
		writing.Wait()
	}
}

// Views are everybody's: many Reads of the same ones at once.
func TestReadsAtOnce(t *testing.T) {
	views := someViews(t)
	asks := allAsks(len(views))[:200]
	want := toldAnswers(alone(views, asks))
	var all sync.WaitGroup
	for i := range 8 {
		all.Go(func() {
			for range 5 {
				if got, err := Read(views, asks, 1+i*9); err != api.OK || toldAnswers(got) != want {
					t.Error("another answer", err)
				}
			}
		})
	}
	within(t, "the Reads don't end", all.Wait)
}

// P1, P16.1: so many goroutines as are asked for, all gone when the call answers; none at all for a call that is refused.
func TestReadGoroutines(t *testing.T) {
	views := someViews(t)
	// On one processor, too, none has done its share before all are seen.
	asks := slices.Repeat(allAsks(len(views)), 30)
	for _, workers := range []int{1, 2, 5} {
		holdAtWork(t, "Read", workers, func() { Read(views, asks, workers) })
	}
	wrong := append(slices.Clone(asks), api.Ask{View: -1})
	holdAtWork(t, "Read", 0, func() {
		Read(views, wrong, 64)
		Read(views, asks, 65)
	})
	holdJoined(t, "Read", func() { Read(views, asks[:100], 64) })
	holdJoined(t, "Read", func() { Read(views, nil, 64) })
	for _, count := range []int{0, 1, 5, 100} {
		for _, workers := range someWorkers {
			synctest.Test(t, func(t *testing.T) { Read(views, asks[:count], workers) })
		}
	}
}

// Very many asks.
func TestReadMany(t *testing.T) {
	const many = 200000
	c := catalog.New(1)
	var views []*catalog.View
	for i := range 10 {
		c.Apply([]api.Op{node(strings.Repeat("n", 1+i), home)})
		views = append(views, c.View())
	}
	asks := make([]api.Ask, many)
	for i := range asks {
		asks[i] = api.Ask{View: i % 7, Query: api.Query{Kind: api.AskNodes}}
	}
	within(t, "Read doesn't end", func() {
		got, err := Read(views, asks, api.MaxWorkers)
		if err != api.OK || len(got) != many {
			t.Error(len(got), err)
		}
		for i, a := range got {
			if a.Index != uint64(2+i%7) || len(a.Nodes) != 1+i%7 {
				t.Errorf("answer %d: %+v", i, a)
				return
			}
		}
	})
}
