package sched

import (
	"math/rand"
	"slices"
	"testing"
	"time"

	"muster/api"
)

func holdDone(t *testing.T, l *Log, want ...int) {
	t.Helper()
	for range 2 {
		if got := l.Done(); !slices.Equal(got, want) {
			t.Errorf("%v, not %v", got, want)
		}
	}
}

// holdReady: which of the workers are ready, written as a word; asking changes nothing.
func holdReady(t *testing.T, workers []Actor, want string) {
	t.Helper()
	for range 2 {
		for i, isReady := range readyOf(want) {
			if workers[i].Ready() != isReady {
				t.Errorf("worker %d: ready %v", i, !isReady)
			}
		}
	}
}

// P17.5
func TestLog(t *testing.T) {
	l := NewLog()
	holdDone(t, l)
	var workers []Actor
	for _, j := range []api.Job{{Work: 2}, {Start: 1, Work: 1}, {Start: 3, Work: 1}, {}, {Start: 4, Work: 2}} {
		workers = append(workers, l.Add(j))
	}
	holdDone(t, l)
	holdReady(t, workers, "x....")
	workers[0].Step()
	holdDone(t, l, 0)
	holdReady(t, workers, "xx...")
	workers[1].Step()
	holdDone(t, l, 0, 1)
	holdReady(t, workers, "x....")
	workers[0].Step()
	holdDone(t, l, 0, 1, 0)
	holdReady(t, workers, "..x..")
	workers[2].Step()
	holdReady(t, workers, "....x")
	workers[4].Step()
	holdReady(t, workers, "....x")
	workers[4].Step()
	holdReady(t, workers, ".....")
	holdDone(t, l, 0, 1, 0, 2, 4, 4)
}

// P17.5: Start and Work below 1, and as great as can be.
func TestLogEdges(t *testing.T) {
	l := NewLog()
	var workers []Actor
	for _, j := range []api.Job{
		{Start: -1, Work: 1}, {Start: leastInt, Work: lastInt}, {Work: 0}, {Work: -1}, {Start: leastInt, Work: leastInt},
		{Start: lastInt, Work: lastInt}, {Start: 1, Work: 0}, {Start: 1, Work: -1}, {Start: 0, Work: lastInt},
	} {
		workers = append(workers, l.Add(j))
	}
	holdReady(t, workers, "xx......x")
	workers[8].Step()
	workers[1].Step()
	holdReady(t, workers, "xx......x")
	workers[0].Step()
	holdReady(t, workers, ".x......x")
	holdDone(t, l, 8, 1, 0)
}

// P17.5: a worker may be added at any time: it is the next one, and the steps done before count for its Start.
func TestLogAddLate(t *testing.T) {
	l := NewLog()
	first := l.Add(api.Job{Work: 9})
	first.Step()
	first.Step()
	second, third := l.Add(api.Job{Start: 2, Work: 1}), l.Add(api.Job{Start: 3, Work: 1})
	holdReady(t, []Actor{first, second, third}, "xx.")
	second.Step()
	holdReady(t, []Actor{first, second, third}, "x.x")
	third.Step()
	first.Step()
	holdDone(t, l, 0, 0, 1, 2, 0)
	l.Add(api.Job{}).Step()
	holdDone(t, l, 0, 0, 1, 2, 0, 3)
}

// P17.5: a Step is one step, also of a worker that isn't ready.
func TestLogStepUnready(t *testing.T) {
	l := NewLog()
	early, idle := l.Add(api.Job{Start: 5, Work: 2}), l.Add(api.Job{})
	idle.Step()
	early.Step()
	early.Step()
	holdDone(t, l, 1, 0, 0)
	for range 3 {
		idle.Step()
	}
	// It is time, but it has done its work.
	holdReady(t, []Actor{early, idle}, "..")
}

// P17.5: each log is apart from the others.
func TestLogsApart(t *testing.T) {
	a, b := NewLog(), NewLog()
	a.Add(api.Job{Work: 1}).Step()
	a.Add(api.Job{Work: 1}).Step()
	holdReady(t, []Actor{b.Add(api.Job{Start: 1, Work: 1})}, ".")
	b.Add(api.Job{Work: 1}).Step()
	holdDone(t, a, 0, 1)
	holdDone(t, b, 1)
}

// P17.5: Done is new memory, spare room too: what is written over in one answer is seen neither in the log nor in another one.
func TestDoneIsNew(t *testing.T) {
	l := NewLog()
	w := l.Add(api.Job{Work: 100})
	var want []int
	for range 20 {
		w.Step()
		want = append(want, 0)
		scrawled, kept := l.Done(), l.Done()
		scrawled = scrawled[:cap(scrawled)]
		for i := range scrawled {
			scrawled[i] = -7
		}
		if !slices.Equal(kept, want) {
			t.Error(kept)
		}
		holdDone(t, l, want...)
	}
	kept := l.Done()
	w.Step()
	if !slices.Equal(kept, want) {
		t.Error(kept)
	}
}

// P17.5: a log's workers may be run in part, in another order, with other actors, and at several places.
func TestRunWorkersOfLogs(t *testing.T) {
	a, b := NewLog(), NewLog()
	a0, a1 := a.Add(api.Job{Work: 2}), a.Add(api.Job{Start: 3, Work: 2})
	b0, b1 := b.Add(api.Job{Start: 1, Work: 1}), b.Add(api.Job{Work: 2})
	ran(t, Run([]Actor{b1, a1, a0}, New([]int{1, 0, 1}, 9), 100), 4)
	holdDone(t, a, 0, 0)
	holdDone(t, b, 1, 1)
	ran(t, Run([]Actor{b0, a0}, New(nil, 9), 100), 1)
	a0.Step()
	ran(t, Run([]Actor{a1, b0}, New(nil, 9), 1), 1)
	holdDone(t, a, 0, 0, 0, 1)
	holdDone(t, b, 1, 1, 0)
}

// modelPlay is a plain Play over the plain chooser.
func modelPlay(jobs []api.Job, picks []int, bound, most int) []int {
	m := &model{picks: slices.Clone(picks), bound: bound}
	var done []int
	own := make([]int, len(jobs))
	for len(done) < most {
		var ready []bool
		for i, j := range jobs {
			ready = append(ready, j.Start <= len(done) && own[i] < j.Work)
		}
		chosen, _ := m.next(ready)
		if chosen < 0 {
			break
		}
		own[chosen]++
		done = append(done, chosen)
	}
	return done
}

func holdPlay(t *testing.T, jobs []api.Job, picks []int, bound, most int) []int {
	t.Helper()
	got, want := Play(jobs, picks, bound, most), modelPlay(jobs, picks, bound, most)
	if !slices.Equal(got, want) {
		t.Fatalf("Play(%v, %v, %d, %d): %v, not %v", jobs, picks, bound, most, got, want)
	}
	return want
}

// P17.6
func TestPlay(t *testing.T) {
	two := []api.Job{{Work: 2}, {Start: 1, Work: 2}}
	for _, x := range []struct {
		jobs        []api.Job
		picks       []int
		bound, most int
		want        []int
	}{
		{two, []int{0, 1, 1}, 9, 100, []int{0, 1, 1, 0}},
		{two, []int{0, 1, 1}, 9, 3, []int{0, 1, 1}},
		{two, []int{0, 1, 1}, 1, 100, []int{0, 1, 0, 1}},
		{two, []int{0, 1, 1}, 0, 100, []int{0, 1, 0, 1}},
		{two, nil, 9, 100, []int{0, 1, 0, 1}},
		{two, []int{5, 0}, 9, 100, []int{0, 0, 1, 1}},
		{two, []int{0, 1, 1}, 9, 0, nil},
		{two, []int{0, 1, 1}, 9, -1, nil},
		{nil, []int{0, 1, 1}, 9, 100, nil},
		{[]api.Job{}, nil, 0, lastInt, nil},
		{[]api.Job{{Start: 1, Work: 1}, {Start: 2, Work: 1}}, []int{1}, 1, 100, nil},
		{[]api.Job{{Start: 1, Work: 1}, {Work: 1}, {Start: 3, Work: 1}}, []int{1}, 1, lastInt, []int{1, 0}},
		{[]api.Job{{Work: 3}, {}, {Work: 3}}, []int{-1, -1, -1, -1}, 2, 100, []int{2, 2, 0, 2, 0, 0}},
	} {
		if got := Play(x.jobs, x.picks, x.bound, x.most); !slices.Equal(got, x.want) {
			t.Errorf("Play(%v, %v, %d, %d): %v, not %v", x.jobs, x.picks, x.bound, x.most, got, x.want)
		}
	}
}

// P17.6: every play of up to three small jobs goes as the model says.
func TestPlayAllSmall(t *testing.T) {
	var all []api.Job
	for start := range 3 {
		for work := range 4 {
			all = append(all, api.Job{Start: start, Work: work})
		}
	}
	play := func(jobs ...api.Job) {
		for _, picks := range [][]int{nil, {1, 0, 2}, {-1, -1, -1, -1, -1, -1, -1}} {
			for bound := 1; bound <= 3; bound++ {
				holdPlay(t, jobs, picks, bound, 100)
				holdPlay(t, jobs, picks, bound, 4)
			}
		}
	}
	play()
	for _, a := range all {
		play(a)
		for _, b := range all {
			play(a, b)
			for _, c := range all {
				play(a, b, c)
			}
		}
	}
}

// P17.6: random plays go as the model says; a play answers the same each time, and leaves what it is given.
func TestPlayRandom(t *testing.T) {
	for seed := range int64(300) {
		rnd := rand.New(rand.NewSource(seed))
		jobs := make([]api.Job, rnd.Intn(9))
		for i := range jobs {
			jobs[i] = api.Job{Start: rnd.Intn(20) - 5, Work: rnd.Intn(14) - 2}
		}
		picks := randomPicks(rnd, 60)
		bound, most := rnd.Intn(8)-1, rnd.Intn(80)
		keptJobs, keptPicks := slices.Clone(jobs), slices.Clone(picks)
		first := holdPlay(t, jobs, picks, bound, most)
		again := Play(jobs, picks, bound, most)
		if !slices.Equal(again, first) || !slices.Equal(jobs, keptJobs) || !slices.Equal(picks, keptPicks) {
			t.Fatalf("seed %d: %v, then %v", seed, first, again)
		}
	}
}

// A long play takes its time alone.
func TestPlayLong(t *testing.T) {
	const many = 300000
	began := time.Now()
	jobs := make([]api.Job, 10)
	for i := range jobs {
		jobs[i] = api.Job{Start: i * 1000, Work: lastInt}
	}
	jobs[9].Work = 1
	picks := make([]int, many/2)
	got := Play(jobs, picks, 4, many)
	if len(got) != many || slices.Index(got, 8) < 8000 || slices.Index(got, 9) < 9000 {
		t.Error(len(got), slices.Index(got, 8), slices.Index(got, 9))
	}
	if took := time.Since(began); took > time.Minute {
		t.Error(took)
	}
}
