package txn

import (
	"runtime"
	"strconv"
	"sync"
	"sync/atomic"
	"testing"
	"time"

	"muster/api"
	"muster/walk"
	"muster/watch"
)

// within: fails if what is done doesn't end.
func within(t *testing.T, what string, do func()) {
	t.Helper()
	done := make(chan int)
	go func() {
		do()
		close(done)
	}()
	select {
	case <-done:
	case <-time.After(time.Minute):
		t.Fatal(what)
	}
}

func TestReadersWaitForNobody(t *testing.T) {
	b := New[int]()
	x, _ := b.Begin()
	x.Set("a", 1)
	b.writer.Lock()
	within(t, "a reader waits for the writer", func() {
		if b.Version() != 0 || b.Tree().Len() != 0 {
			t.Error("the version ahead of the commit")
		}
	})
	b.writer.Unlock()
	if _, e := x.Commit(); e != api.OK {
		t.Error(e)
	}
}

func TestOneOfManyBegins(t *testing.T) {
	const many = 16
	b := New[int]()
	for round := range 200 {
		var opened atomic.Int64
		var all sync.WaitGroup
		var mine [many]*Txn[int]
		for i := range many {
			all.Go(func() {
				x, e := b.Begin()
				if e == api.OK {
					opened.Add(1)
				} else if x != nil || e != api.ErrOpen {
					t.Errorf("Begin = %v, %d", x, e)
				}
				mine[i] = x
			})
		}
		all.Wait()
		if opened.Load() != 1 {
			t.Fatalf("%d transactions are open", opened.Load())
		}
		for _, x := range mine {
			if x != nil && round%2 == 0 {
				x.Abort()
			} else if x != nil {
				x.Set("a", round)
				x.Commit()
			}
		}
	}
	if b.Version() != 100 {
		t.Errorf("version %d", b.Version())
	}
}

// beginAt: opens a transaction as soon as nobody else has one open.
func beginAt(b *Base[int]) *Txn[int] {
	for {
		if x, e := b.Begin(); e == api.OK {
			return x
		}
		runtime.Gosched()
	}
}

// raise: one more at both keys.
func raise(x *Txn[int]) {
	left, _ := x.Get("left")
	x.Set("left", left+1)
	right, _ := x.Get("right")
	x.Set("right", right+1)
}

// Whatever readers take is whole, and never older than what they took before.
func TestManyReadersAndWriters(t *testing.T) {
	const writers, readers, commits = 4, 4, 300
	b := New[int]()
	var writing, reading sync.WaitGroup
	var done atomic.Int64
	for range writers {
		writing.Go(func() {
			for i := range commits {
				x := beginAt(b)
				raise(x)
				if i%5 == 4 {
					x.Abort()
					x = beginAt(b)
					raise(x)
				}
				if _, e := x.Commit(); e != api.OK {
					t.Errorf("Commit: %d", e)
				}
			}
		})
	}
	for range readers {
		reading.Go(func() {
			last := 0
			for done.Load() == 0 {
				least := b.Version()
				tree := b.Tree()
				most := b.Version()
				left, _ := tree.Get("left")
				right, _ := tree.Get("right")
				if left != right || left < last || uint64(left) < least || uint64(left) > most {
					t.Errorf("left %d, right %d, versions %d to %d, before %d", left, right, least, most, last)
					return
				}
				last = left
			}
		})
	}
	within(t, "the writers don't end", writing.Wait)
	done.Store(1)
	within(t, "the readers don't end", reading.Wait)
	if left, _ := b.Tree().Get("left"); left != writers*commits || b.Version() != writers*commits {
		t.Errorf("left %d, version %d", left, b.Version())
	}
}

// untilFired: waits for a watch.
func untilFired(w *watch.Watch) {
	for !w.Fired() {
		runtime.Gosched()
	}
}

// The commits are great ones, so that there is time between the first watch that is fired and the last.
func TestWhoeverIsWokenFindsTheNewTree(t *testing.T) {
	const keys, rounds = 5000, 5
	b := New[int]()
	setAll := func(v int) {
		x := beginAt(b)
		for i := range keys {
			x.Set(strconv.Itoa(i), v)
		}
		if n, e := x.Commit(); n == 0 || e != api.OK {
			t.Errorf("Commit = %d, %d", n, e)
		}
	}
	setAll(0)
	for round := range rounds {
		first, _, _ := b.Tree().Least()
		w := b.Tree().Watch(first)
		var woken sync.WaitGroup
		for range 2 {
			woken.Go(func() {
				untilFired(w)
				if v, _ := b.Tree().Get(first); v != round+1 || b.Version() != uint64(round+2) {
					t.Errorf("woken, and found %d in version %d", v, b.Version())
				}
			})
		}
		setAll(round + 1)
		within(t, "nobody was woken", woken.Wait)
	}
}

// The next transaction begins behind the last one's commit, with all its watches fired.
func TestTheNextBeginsBehindTheCommit(t *testing.T) {
	const keys, rounds = 5000, 5
	b := New[int]()
	for range rounds {
		x := beginAt(b)
		for i := range keys {
			x.Set(strconv.Itoa(i), i)
		}
		last, _, _ := b.Tree().Greatest()
		w := b.Tree().Watch(last)
		var other sync.WaitGroup
		other.Go(func() {
			y := beginAt(b)
			if !w.Fired() {
				t.Error("a transaction began in the midst of a commit")
			}
			if y.Tree() != b.Tree() || walk.Count(y.Tree(), "") != keys {
				t.Error("it isn't over the current tree")
			}
			y.Abort()
		})
		x.Commit()
		within(t, "the other one doesn't begin", other.Wait)
	}
}

// A tree that is held stays as it was while it is read and others commit.
func TestHeldTreesWhileOthersCommit(t *testing.T) {
	b := New[int]()
	x := beginAt(b)
	for i := range 200 {
		x.Set(strconv.Itoa(i), i)
	}
	x.Commit()
	tree := b.Tree()
	var all sync.WaitGroup
	for range 4 {
		all.Go(func() {
			for range 50 {
				count := 0
				for k, v := range walk.All(tree) {
					if k != strconv.Itoa(v) {
						t.Errorf("%q has %d", k, v)
					}
					count++
				}
				if count != 200 || tree.Len() != 200 {
					t.Errorf("%d entries", count)
				}
			}
		})
	}
	for i := range 100 {
		x := beginAt(b)
		x.Trim(strconv.Itoa(i))
		x.Set(strconv.Itoa(i), -1)
		x.Commit()
	}
	all.Wait()
}
