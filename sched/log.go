package sched

import (
	"slices"

	"muster/api"
)

// Log is what workers share: who did which step.
type Log struct {
	workers int
	// steps has, for each step, the number of the worker that did it.
	steps []int
}

// NewLog: a log without steps and workers.
func NewLog() *Log { return &Log{} }

// Add: the log's next worker.
func (l *Log) Add(j api.Job) Actor {
	w := &worker{log: l, number: l.workers, job: j}
	l.workers++
	return w
}

// Done: the numbers of the workers, step by step.
func (l *Log) Done() []int { return slices.Clone(l.steps) }

// worker is an actor that puts its steps down in its log.
type worker struct {
	log    *Log
	number int
	job    api.Job
	// done is how many steps it has done itself.
	done int
}

// Ready: whether it may begin by now, and has work left.
func (w *worker) Ready() bool {
	return len(w.log.steps) >= w.job.Start && w.done < w.job.Work
}

// Step does one step.
func (w *worker) Step() {
	w.log.steps = append(w.log.steps, w.number)
	w.done++
}

// Play: runs jobs; who did which step.
func Play(jobs []api.Job, picks []int, bound, most int) []int {
	l := NewLog()
	workers := make([]Actor, len(jobs))
	for i, j := range jobs {
		workers[i] = l.Add(j)
	}
	Run(workers, New(picks, bound), most)
	return l.Done()
}
