package crowd

import (
	"math"
	"math/rand"
	"slices"
	"strconv"
	"strings"
	"sync"
	"testing"
	"testing/synctest"
	"time"
	"unsafe"

	"muster/api"
	"muster/catalog"
)

func TestNumbers(t *testing.T) {
	if api.ErrWorkers != 160 || api.ErrView != 161 || api.MaxWorkers != 64 {
		t.Errorf("ErrWorkers %d, ErrView %d, MaxWorkers %d", api.ErrWorkers, api.ErrView, api.MaxWorkers)
	}
}

// The chapter's example.
func TestExample(t *testing.T) {
	c := catalog.New(0)
	a := []api.Op{node("a", home)}
	got, err := Write(c, [][]api.Op{a, a}, 8)
	if err != api.OK || !slices.Equal(got, []api.Outcome{{Index: 2, Changed: true}, {Index: 2}}) {
		t.Errorf("%+v, %d", got, err)
	}
}

// holdWrite: Write gives and leaves what Apply, one list after the other, does; the outcomes.
func holdWrite(t *testing.T, first uint64, lists [][]api.Op, workers int) []api.Outcome {
	t.Helper()
	c, twin := catalog.New(first), catalog.New(first)
	got, err := Write(c, lists, workers)
	want := applyAll(twin, lists)
	if err != api.OK || !slices.Equal(got, want) {
		t.Fatalf("%d workers, %d lists: %+v, %d, not %+v", workers, len(lists), got, err, want)
	}
	holdTold(t, c, told(twin.View()))
	return got
}

// Any number of workers with any number of lists, fewer, as many, or more: each is applied once, the first one first.
func TestWriteAllNumbers(t *testing.T) {
	// Each list takes out what the one before has made, and is refused if that isn't so: no other order gives the same.
	chain := [][]api.Op{{cas(node("n0", home), 0)}}
	for i := 1; i < 140; i++ {
		chain = append(chain, []api.Op{cas(dropNode("n"+strconv.Itoa(i-1)), uint64(i+1)), node("n"+strconv.Itoa(i), home)})
	}
	for workers := 1; workers <= api.MaxWorkers; workers++ {
		for _, count := range []int{0, 1, 2, 3, workers - 1, workers, workers + 1, 2*workers - 1, 2 * workers, 2*workers + 1, 140} {
			c := catalog.New(1)
			got, err := Write(c, chain[:count], workers)
			if err != api.OK || len(got) != count || c.Index() != uint64(count+1) {
				t.Fatalf("%d workers, %d lists: %d outcomes, %d, index %d", workers, count, len(got), err, c.Index())
			}
			for i, o := range got {
				if o != (api.Outcome{Index: uint64(i + 2), Changed: true}) {
					t.Fatalf("%d workers, %d lists: outcome %d is %+v", workers, count, i, o)
				}
			}
		}
	}
}

func TestWriteNothing(t *testing.T) {
	for _, workers := range someWorkers {
		for _, lists := range [][][]api.Op{nil, {}} {
			c := filled(t, 1, []api.Op{node("n", home)})
			holdUntouched(t, c, func() {
				if got, err := Write(c, lists, workers); len(got) != 0 || err != api.OK {
					t.Errorf("%+v, %d", got, err)
				}
			})
		}
	}
}

func TestWriteWrongWorkers(t *testing.T) {
	for _, workers := range wrongWorkers {
		for _, lists := range [][][]api.Op{nil, {nil}, {{node("m", home)}}, {{{}}, {dropNode("n")}}} {
			c := filled(t, 1, []api.Op{node("n", home)})
			holdUntouched(t, c, func() {
				if got, err := Write(c, lists, workers); len(got) != 0 || err != api.ErrWorkers {
					t.Errorf("%d workers: %+v, %d", workers, got, err)
				}
			})
		}
	}
}

// A list's error is the first one that Apply meets: an operation that has no normal form isn't told ahead of one that the catalog refuses.
func TestWriteFirstErrorOfList(t *testing.T) {
	wrong := map[api.Errno]api.Op{
		api.ErrOp:     {Kind: 7},
		api.ErrLabel:  node("-", home),
		api.ErrAddr:   node("n", "10.0.0"),
		api.ErrPort:   service("n", "s", "web", 0),
		api.ErrTags:   service("n", "s", "web", 80, "_"),
		api.ErrStatus: check("n", "c", "", 4, ""),
		api.ErrNote:   check("n", "c", "", 1, "\n"),
	}
	refused := map[api.Errno]api.Op{
		api.ErrNoNode:    service("q", "s", "web", 80),
		api.ErrNoService: check("n", "c", "q", 1, ""),
		api.ErrStale:     cas(node("n", home), 99),
	}
	good := node("m", home)
	for wrongErr, w := range wrong {
		for refusedErr, r := range refused {
			var want []api.Outcome
			lists := [][]api.Op{{node("n", home)}}
			want = append(want, api.Outcome{Index: 2, Changed: true})
			for _, x := range []struct {
				ops []api.Op
				err api.Errno
				at  int
			}{
				{[]api.Op{w}, wrongErr, 0},
				{[]api.Op{w, r}, wrongErr, 0},
				{[]api.Op{r, w}, refusedErr, 0},
				{[]api.Op{good, w, r}, wrongErr, 1},
				{[]api.Op{good, good, r, w, w}, refusedErr, 2},
				{slices.Repeat([]api.Op{w}, 64), wrongErr, 0},
				{slices.Repeat([]api.Op{w}, 65), api.ErrOps, 0},
				{append(slices.Repeat([]api.Op{good}, 63), w), wrongErr, 63},
				{append(slices.Repeat([]api.Op{good}, 64), w), api.ErrOps, 0},
				{nil, api.ErrOps, 0},
				{[]api.Op{}, api.ErrOps, 0},
			} {
				lists = append(lists, x.ops)
				want = append(want, api.Outcome{Index: 2, Err: x.err, At: x.at})
			}
			for _, workers := range []int{1, 3, 64} {
				if got := holdWrite(t, 1, lists, workers); !slices.Equal(got, want) {
					t.Fatalf("%+v, not %+v", got, want)
				}
			}
		}
	}
}

// Names are brought into their normal form, and what a kind doesn't use isn't looked at.
func TestWriteNormalForms(t *testing.T) {
	full := api.Op{Node: api.Node{Name: "N", Addr: home, Made: 7, Changed: 8}, Want: 77,
		Service: api.Service{Node: "N", Id: "S", Name: "Web", Port: 80, Tags: []string{"b", "A", "a"}, Made: 7, Changed: 8},
		Check:   api.Check{Node: "N", Id: "C", Service: "S", Status: 2, Note: "So So", Made: 7, Changed: 8}}
	var lists [][]api.Op
	for kind := 1; kind <= 6; kind++ {
		full.Kind = kind
		lists = append(lists, []api.Op{full})
	}
	for _, workers := range someWorkers {
		c := catalog.New(1)
		got, err := Write(c, lists[:3], workers)
		if err != api.OK || !slices.Equal(got, []api.Outcome{{Index: 2, Changed: true}, {Index: 3, Changed: true}, {Index: 4, Changed: true}}) {
			t.Fatalf("%+v, %d", got, err)
		}
		v := c.View()
		if l := v.OfNode("n"); len(l) != 1 || l[0].Id != "s" || l[0].Name != "web" || !slices.Equal(l[0].Tags, []string{"a", "b"}) || l[0].Made != 3 {
			t.Errorf("%+v", l)
		}
		if l := v.Checks("n"); len(l) != 1 || l[0] != (api.Check{Node: "n", Id: "c", Service: "s", Status: 2, Note: "So So", Made: 4, Changed: 4}) {
			t.Errorf("%+v", l)
		}
		holdWrite(t, 1, lists, workers)
		slices.Reverse(lists)
		holdWrite(t, 1, lists, workers)
		slices.Reverse(lists)
	}
}

func TestWriteExhausted(t *testing.T) {
	lists := [][]api.Op{{node("a", home)}, {node("b", home)}, {node("a", home)}, {node("c", home)}, {{}}, {node("a", other), cas(node("a", home), 0)}, {dropNode("a")}, nil}
	for _, workers := range someWorkers {
		got := holdWrite(t, math.MaxUint64-2, lists, workers)
		last := uint64(math.MaxUint64)
		want := []api.Outcome{{Index: last - 1, Changed: true}, {Index: last, Changed: true}, {Index: last}, {Index: last, Err: 104}, {Index: last, Err: 96}, {Index: last, Err: 104}, {Index: last, Err: 104}, {Index: last, Err: 103}}
		if !slices.Equal(got, want) {
			t.Errorf("%+v, not %+v", got, want)
		}
	}
}

// Random lists, wrong ones, empty ones and too long ones among them, on catalogs that Writes of before have left.
func TestWriteRandomLists(t *testing.T) {
	met := map[api.Errno]int{}
	for seed := range int64(40) {
		rnd := rand.New(rand.NewSource(seed))
		first := pick[uint64](rnd, 0, 1, 1000, math.MaxUint64-20)
		c, twin := catalog.New(first), catalog.New(first)
		for range 4 {
			lists := randomLists(rnd, rnd.Intn(80), first)
			workers := pick(rnd, someWorkers...)
			before, beforeTold := c.View(), told(c.View())
			got, err := Write(c, lists, workers)
			want := applyAll(twin, lists)
			if err != api.OK || !slices.Equal(got, want) {
				t.Fatalf("seed %d, %d workers: %+v, %d, not %+v", seed, workers, got, err, want)
			}
			holdTold(t, c, told(twin.View()))
			if told(before) != beforeTold {
				t.Fatalf("seed %d: a view has changed", seed)
			}
			for _, o := range got {
				met[o.Err]++
			}
		}
	}
	for _, e := range []api.Errno{0, 90, 91, 92, 93, 94, 95, 96, 100, 101, 102, 103, 104} {
		if met[e] == 0 {
			t.Errorf("error %d is never met", e)
		}
	}
}

// Each commit fires the watches of the tables whose marks it raises.
func TestWriteIsHeard(t *testing.T) {
	c := catalog.New(1)
	v := c.View()
	Write(c, [][]api.Op{{node("n", home)}, {check("n", "c", "", 1, "")}}, 5)
	if !v.Heard("nodes").Fired() || v.Heard("services").Fired() || !v.Heard("checks").Fired() {
		t.Error("the wrong watches are fired")
	}
}

// What is handed in isn't changed, spare room included.
func TestWriteLeavesItsArguments(t *testing.T) {
	spare := api.Op{Kind: 9, Service: api.Service{Tags: []string{"spare"}}}
	lists := [][]api.Op{
		roomy([]api.Op{node("N", home), service("N", "S", "Web", 80, roomy([]string{"b", "A", "a"}, "Z")...)}, spare),
		roomy([]api.Op{node("-", home), dropNode("N")}, spare),
		roomy(slices.Repeat([]api.Op{dropNode("N")}, 65), spare),
		roomy(nil, spare),
	}
	lists[0][1].Want = 7
	lists = roomy(lists, []api.Op{spare})
	before := toldOps(lists)
	for _, workers := range someWorkers {
		if _, err := Write(catalog.New(1), lists, workers); err != api.OK || toldOps(lists) != before {
			t.Fatal("Write has changed what it was given", err)
		}
	}
}

// text: a text in memory that can be written over.
func text(room []byte) string { return unsafe.String(&room[0], len(room)) }

// What is handed in isn't kept: all of it may be written over behind the call, the texts' bytes too.
func TestWriteKeepsNothing(t *testing.T) {
	rooms := [][]byte{[]byte("n"), []byte(home), []byte("s"), []byte("web"), []byte("x"), []byte("c"), []byte("all well")}
	n, addr, id, name, tag, checkId, note := text(rooms[0]), text(rooms[1]), text(rooms[2]), text(rooms[3]), text(rooms[4]), text(rooms[5]), text(rooms[6])
	lists := [][]api.Op{{node(n, addr)}, {service(n, id, name, 80, tag), check(n, checkId, id, 1, note)}, {node(n, addr), {Kind: 9, Node: api.Node{Name: n}}}}
	c := catalog.New(1)
	got, err := Write(c, lists, 2)
	if err != api.OK || len(got) != 3 {
		t.Fatal(got, err)
	}
	before := strings.Clone(told(c.View()))
	for _, room := range rooms {
		scrawl(room, '?')
	}
	for _, ops := range lists {
		for _, o := range ops {
			scrawl(o.Service.Tags, "?")
		}
		scrawl(ops, api.Op{})
	}
	holdTold(t, c, before)
	if n, ok := c.View().Node("n"); !ok || n.Addr != home {
		t.Errorf("%+v", n)
	}
}

// One list handed in many times over: the workers look at it at once.
func TestWriteSameListManyTimes(t *testing.T) {
	ops := []api.Op{node("N", home), service("N", "S", "Web", 80, "b", "A", "a"), node("n", other)}
	got := holdWrite(t, 1, slices.Repeat([][]api.Op{ops}, 300), 64)
	for i, o := range got {
		if o != (api.Outcome{Index: uint64(i + 2), Changed: true}) {
			t.Fatalf("outcome %d: %+v", i, o)
		}
	}
}

// A catalog is everybody's: Writes at once and others who apply wait for each other, each one's lists in their order.
func TestWritesAtOnce(t *testing.T) {
	const writers, lists = 8, 60
	c := catalog.New(1)
	var outcomes [writers][]api.Outcome
	var all sync.WaitGroup
	for w := range writers {
		var mine [][]api.Op
		for n := range lists {
			mine = append(mine, []api.Op{node("n"+strconv.Itoa(w)+"-"+strconv.Itoa(n), home)})
		}
		all.Go(func() {
			if w == 0 {
				outcomes[w] = applyAll(c, mine)
				return
			}
			outcomes[w], _ = Write(c, mine, 1+w*9)
		})
	}
	within(t, "the Writes don't end", all.Wait)
	var indexes []uint64
	for _, l := range outcomes {
		if len(l) != lists {
			t.Fatalf("%d outcomes", len(l))
		}
		for i, o := range l {
			if !o.Changed || i > 0 && o.Index <= l[i-1].Index {
				t.Fatalf("%+v behind %+v", o, l[max(i-1, 0)])
			}
			indexes = append(indexes, o.Index)
		}
	}
	slices.Sort(indexes)
	for i, index := range indexes {
		if index != uint64(i+2) {
			t.Fatalf("commit %d has the index %d", i, index)
		}
	}
}

// P1, P16.2: so many goroutines as are asked for, all gone when the call answers; none at all for a call that is refused.
func TestWriteGoroutines(t *testing.T) {
	lists := slices.Repeat([][]api.Op{{node("n", home)}, {node("n", other), service("n", "s", "web", 80)}, {dropNode("n"), {}}}, 200)
	c := catalog.New(1)
	for _, workers := range []int{1, 2, 5, 64} {
		holdAtWork(t, "Write", workers, func() { Write(c, lists, workers) })
	}
	holdAtWork(t, "Write", 0, func() { Write(c, lists, 65) })
	holdOneApplies(t, "Write", func() { Write(c, lists, 8) })
	holdJoined(t, "Write", func() { Write(c, lists[:20], 64) })
	holdJoined(t, "Write", func() { Write(c, nil, 64) })
	for _, count := range []int{0, 1, 2, 63, 64, 65, 200} {
		for _, workers := range someWorkers {
			synctest.Test(t, func(t *testing.T) { Write(catalog.New(1), lists[:count], workers) })
		}
	}
}

// The lists are made ready by the workers: what comes down their lines is in normal form, or, where there is none, as it was.
func TestLists(t *testing.T) {
	wrong := api.Op{Kind: 9, Node: api.Node{Name: "N"}, Want: 5}
	list := []api.Op{node("N", home), wrong, dropService("A", "B"), cas(dropNode("M"), 4)}
	list[0].Want = 9
	long := slices.Repeat([]api.Op{node("N", home)}, 65)
	lists := [][]api.Op{list, long, nil, list, list}
	for worker, places := range [][]int{{0, 3}, {1, 4}, {2}} {
		line := make(chan []api.Op, 9)
		makeReady(lists, worker, 3, line)
		var got [][]api.Op
		for ops := range line {
			got = append(got, ops)
		}
		var want [][]api.Op
		for _, place := range places {
			ops := lists[place]
			if place == 0 || place > 2 {
				ops = []api.Op{node("n", home), wrong, dropService("a", "b"), cas(dropNode("m"), 4)}
			}
			want = append(want, ops)
		}
		if toldOps(slices.Clip(got)) != toldOps(slices.Clip(want)) {
			t.Errorf("worker %d: %s, not %s", worker, toldOps(slices.Clip(got)), toldOps(slices.Clip(want)))
		}
	}
}

// Very many lists, and very long ones, which are refused unseen.
func TestWriteMany(t *testing.T) {
	const many = 30000
	began := time.Now()
	lists := make([][]api.Op, many)
	for i := range lists {
		lists[i] = []api.Op{node("n"+strconv.Itoa(i%5000), "10.0.0."+strconv.Itoa(i/5000))}
	}
	lists[77] = slices.Repeat(lists[0], 500000)
	c := catalog.New(1)
	within(t, "Write doesn't end", func() {
		got, err := Write(c, lists, api.MaxWorkers)
		if err != api.OK || len(got) != many || got[77] != (api.Outcome{Index: 78, Err: api.ErrOps}) || got[many-1] != (api.Outcome{Index: many, Changed: true}) {
			t.Error(len(got), err)
		}
	})
	if took := time.Since(began); took > time.Minute {
		t.Error(took)
	}
}
