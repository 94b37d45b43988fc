package store

import (
	"runtime"
	"strconv"
	"sync"
	"sync/atomic"
	"testing"
	"time"

	"muster/api"
)

// within: fails if what is done doesn't end.
func within(t *testing.T, what string, do func()) {
	t.Helper()
	done := make(chan int)
	go func() {
		do()
		close(done)
	}()
	select {
	case <-done:
	case <-time.After(time.Minute):
		t.Fatal(what)
	}
}

// beginAt: opens a Write as soon as nobody else has one open.
func beginAt(s *Store) *Write {
	for {
		if w, e := s.Begin(); e == api.OK {
			return w
		}
		runtime.Gosched()
	}
}

func TestOneOfManyBegins(t *testing.T) {
	const many, rounds = 8, 100
	s, _, _ := New(chapter)
	for round := range rounds {
		var opened [many]*Write
		var all sync.WaitGroup
		for i := range many {
			all.Go(func() {
				w, e := s.Begin()
				if (w == nil) != (e == api.ErrOpen) {
					t.Errorf("Begin = %v, %d", w, e)
				}
				opened[i] = w
			})
		}
		all.Wait()
		count := 0
		for _, w := range opened {
			if w != nil {
				count++
				puts(t, w, "q", row(text(strconv.Itoa(round)), list()))
				committed(t, w)
			}
		}
		if count != 1 || s.View().Version() != uint64(round+1) {
			t.Fatalf("%d Writes were open, version %d", count, s.View().Version())
		}
	}
}

// Each commit makes one row more: so a view whose version isn't its tree's is seen by its count.
func TestViewsAreWholeWhileOthersCommit(t *testing.T) {
	const writers, readers, commits = 3, 4, 150
	s, _, _ := New(chapter)
	var writing, reading sync.WaitGroup
	var done atomic.Int64
	for i := range writers {
		writing.Go(func() {
			for n := range commits {
				w := beginAt(s)
				before := w.View()
				puts(t, w, "q", row(text(strconv.Itoa(i)+"."+strconv.Itoa(n)), list("x", "y")))
				if had, _ := before.Count("q"); uint64(had) != before.Version() {
					t.Errorf("a Write at version %d begins with %d rows", before.Version(), had)
				}
				committed(t, w)
			}
		})
	}
	for range readers {
		reading.Go(func() {
			last := uint64(0)
			for done.Load() == 0 {
				v := s.View()
				count, _ := v.Count("q")
				tags, _, _ := v.List("q", "tag", nil, false)
				if uint64(count) != v.Version() || len(tags) != 2*count || v.Version() < last {
					t.Errorf("version %d behind %d, %d rows, %d tags", v.Version(), last, count, len(tags))
					return
				}
				last = v.Version()
			}
		})
	}
	within(t, "the writers don't end", writing.Wait)
	done.Store(1)
	within(t, "the readers don't end", reading.Wait)
	if s.View().Version() != writers*commits {
		t.Errorf("version %d", s.View().Version())
	}
}

// Version and tree belong together, however close to a commit they are taken.
func TestVersionsBelongToTheirTrees(t *testing.T) {
	const commits = 20000
	s, _, _ := New("table q\nfield n num\nindex id n unique\n")
	var reading sync.WaitGroup
	var done atomic.Int64
	for range 4 {
		reading.Go(func() {
			for done.Load() == 0 {
				v := s.View()
				r, ok, _, _ := v.First("q", "id", nil)
				if ok != (v.Version() > 0) || ok && r.Cells[0].Num != v.Version() {
					t.Errorf("version %d has the row %v", v.Version(), r)
					return
				}
			}
		})
	}
	for n := range uint64(commits) {
		w := beginAt(s)
		w.DropAll("q", "id", nil)
		puts(t, w, "q", row(num(n+1)))
		committed(t, w)
	}
	done.Store(1)
	within(t, "the readers don't end", reading.Wait)
}

func TestWhoeverIsWokenFindsTheNewRows(t *testing.T) {
	const many, rounds = 1000, 5
	s, _, _ := New(chapter)
	for round := range rounds {
		v := s.View()
		_, heard, _ := v.List("q", "id", nil, false)
		var woken sync.WaitGroup
		for range 3 {
			woken.Go(func() {
				for !heard.Fired() {
					runtime.Gosched()
				}
				now := s.View()
				if n, _ := now.Count("q"); n != many*(round+1) || now.Version() != uint64(round+1) {
					t.Errorf("woken, and found %d rows in version %d", n, now.Version())
				}
			})
		}
		w := beginAt(s)
		for i := range many {
			puts(t, w, "q", row(text(strconv.Itoa(round)+"."+strconv.Itoa(i)), list()))
		}
		committed(t, w)
		within(t, "nobody was woken", woken.Wait)
	}
}

// One view can be asked by many at once.
func TestManyAskOneView(t *testing.T) {
	s, w := made(t, chapter)
	for i := range 100 {
		puts(t, w, "q", row(text(strconv.Itoa(i)), list("x", strconv.Itoa(i%10))))
	}
	committed(t, w)
	v := s.View()
	want, _, _ := v.List("q", "tag", nil, false)
	var all sync.WaitGroup
	for range 4 {
		all.Go(func() {
			for range 50 {
				got, _, _ := v.List("q", "tag", nil, false)
				if !sameRows(got, want) || len(got) != 200 {
					t.Errorf("%d rows", len(got))
					return
				}
				for _, r := range got {
					scrawl(r)
				}
			}
		})
	}
	for range 50 {
		w := begun(t, s)
		w.DropAll("q", "tag", textParts("x"))
		puts(t, w, "q", row(text("new"), list("y")))
		committed(t, w)
	}
	all.Wait()
}
