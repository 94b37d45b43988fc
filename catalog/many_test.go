package catalog

import (
	"runtime"
	"slices"
	"strconv"
	"sync"
	"sync/atomic"
	"testing"
	"time"

	"muster/api"
)

// within: fails if what is done doesn't end.
func within(t *testing.T, what string, do func()) {
	t.Helper()
	done := make(chan int)
	go func() {
		do()
		close(done)
	}()
	select {
	case <-done:
	case <-time.After(time.Minute):
		t.Fatal(what)
	}
}

// Any number may write at once: each list is applied, one behind the other, and each commit has an index of its own.
func TestManyWrite(t *testing.T) {
	const writers, lists = 8, 100
	c := New(10)
	var outcomes [writers][]api.Outcome
	var all sync.WaitGroup
	for i := range writers {
		all.Go(func() {
			for n := range lists {
				name := "n" + strconv.Itoa(i) + "-" + strconv.Itoa(n)
				outcomes[i] = append(outcomes[i], c.Apply([]api.Op{node(name, home), check(name, "c", "", 1, "")}))
				// Lists that come to nothing go between.
				if o := c.Apply([]api.Op{node(name, other), {}}); o.Err != api.ErrOp || o.At != 1 || o.Changed {
					t.Errorf("%+v", o)
				}
				if o := c.Apply(nil); o.Err != api.ErrOps {
					t.Errorf("%+v", o)
				}
			}
		})
	}
	within(t, "the writers don't end", all.Wait)
	var indexes []uint64
	for i, list := range outcomes {
		for n, o := range list {
			if !o.Changed || o.Err != api.OK {
				t.Fatalf("%+v", o)
			}
			name := "n" + strconv.Itoa(i) + "-" + strconv.Itoa(n)
			if got, ok := c.View().Node(name); !ok || got.Made != o.Index || got.Addr != home {
				t.Errorf("%q: %+v, made by %+v", name, got, o)
			}
			indexes = append(indexes, o.Index)
		}
	}
	slices.Sort(indexes)
	for i, index := range indexes {
		if index != uint64(11+i) {
			t.Fatalf("commit %d has the index %d", i, index)
		}
	}
	if c.Index() != 10+writers*lists {
		t.Errorf("index %d", c.Index())
	}
}

// Of many that want to change one record by compare-and-set, one a round gets through.
func TestManyCompareAndSet(t *testing.T) {
	const many, rounds = 8, 50
	c := New(1)
	last := uint64(0)
	for round := range rounds {
		var won atomic.Int64
		var all sync.WaitGroup
		for i := range many {
			all.Go(func() {
				o := c.Apply([]api.Op{cas(node("n", "10."+strconv.Itoa(round)+".0."+strconv.Itoa(i)), last)})
				switch {
				case o.Changed:
					won.Add(1)
				case o.Err != api.ErrStale:
					t.Errorf("%+v", o)
				}
			})
		}
		within(t, "the writers don't end", all.Wait)
		n, _ := c.View().Node("n")
		if won.Load() != 1 || n.Changed != uint64(round+2) || n.Made != 2 {
			t.Fatalf("%d got through, %+v", won.Load(), n)
		}
		last = n.Changed
	}
}

// Each list makes a node, a service and a check, and takes out the ones of the list before: a view that isn't of one moment would be seen by that.
func TestViewsAreWhole(t *testing.T) {
	const lists = 2000
	c := New(1)
	var reading sync.WaitGroup
	var done atomic.Int64
	for range 4 {
		reading.Go(func() {
			last := uint64(0)
			for done.Load() == 0 {
				v := c.View()
				index := v.Index()
				if index < last || c.Index() < index {
					t.Errorf("index %d behind %d", index, last)
					return
				}
				last = index
				nodes, services, checks := v.Nodes(), v.Services("web"), v.ByStatus(1)
				for _, table := range marked {
					if v.Mark(table) != index {
						t.Errorf("the mark of %q is %d at index %d", table, v.Mark(table), index)
						return
					}
				}
				if index == 1 {
					continue
				}
				if len(nodes) != 1 || len(services) != 1 || len(checks) != 1 || nodes[0].Made != index || services[0].Made != index || checks[0].Changed != index {
					t.Errorf("index %d: %+v, %+v, %+v", index, nodes, services, checks)
					return
				}
			}
		})
	}
	for i := range lists {
		name, before := "n"+strconv.Itoa(i), "n"+strconv.Itoa(i-1)
		ops := []api.Op{node(name, home), service(name, "s", "web", 80), check(name, "c", "s", 1, "")}
		if i > 0 {
			ops = append(ops, dropNode(before))
		}
		if o := c.Apply(ops); !o.Changed {
			t.Errorf("%+v", o)
		}
	}
	done.Store(1)
	within(t, "the readers don't end", reading.Wait)
}

// Readers wait for nobody, not even for a writer in the midst of a list.
func TestReadersDoNotWait(t *testing.T) {
	r := filled(t)
	c := r.catalog
	c.writer.Lock()
	defer c.writer.Unlock()
	w, _ := c.store.Begin()
	defer w.Abort()
	w.DropAll("nodes", "id", nil)
	within(t, "a reader waits", func() {
		v := c.View()
		if c.Index() != 4 || v.Index() != 4 || len(v.Nodes()) != 3 || len(v.Services("")) != 9 || v.Heard("nodes").Fired() {
			t.Errorf("index %d, %d nodes", v.Index(), len(v.Nodes()))
		}
	})
}

// Whoever is told of a commit finds it.
func TestWhoeverIsWokenFindsTheCommit(t *testing.T) {
	const rounds = 200
	c := New(1)
	c.Apply([]api.Op{node("n", home)})
	for round := range rounds {
		v := c.View()
		heard := v.Heard("checks")
		var woken sync.WaitGroup
		for range 3 {
			woken.Go(func() {
				for !heard.Fired() {
					runtime.Gosched()
				}
				now := c.View()
				if now.Mark("checks") <= v.Mark("checks") || len(now.Checks("n")) != round+1 {
					t.Errorf("woken, and found the mark %d and %d checks", now.Mark("checks"), len(now.Checks("n")))
				}
			})
		}
		c.Apply([]api.Op{service("n", "s", "web", 1+round)})
		c.Apply([]api.Op{check("n", "c"+strconv.Itoa(round), "s", 1, "")})
		within(t, "nobody was woken", woken.Wait)
	}
}

// One view can be asked by many at once, while others write.
func TestManyAskOneView(t *testing.T) {
	r := filled(t)
	v, want := r.catalog.View(), r.now
	var all sync.WaitGroup
	for range 4 {
		all.Go(func() {
			for range 20 {
				if v.Index() != want.index || !sameList(v.Nodes(), want.allNodes()) || !sameList(v.Services("web"), want.servicesNamed("web")) || !sameList(v.ChecksOf("a", ""), want.checksOf("a", "")) {
					t.Error("the view is another")
					return
				}
				scrawl(v.Services(""), api.Service{})
				v.Heard("nodes").Fired()
			}
		})
	}
	for i := range 50 {
		r.catalog.Apply([]api.Op{dropNode("a"), node("a", home), service("a", "s", "web", 1+i)})
	}
	within(t, "the readers don't end", all.Wait)
}
