package blocking

import (
	"strings"

	"muster/api"
	"muster/catalog"
	"muster/health"
	"muster/watch"
)

// query is one query on its way through the phases.
type query struct {
	phase int
	asked api.Query
	// view is the one that it holds, in PhaseHeld and PhaseWait.
	view *catalog.View
	// watches are what it waits on, in PhaseWait.
	watches *watch.Set
	// late: its timer has fired.
	late      bool
	cancelled bool
	// answer is what it came to, in PhaseDone.
	answer api.Answer
}

// newQuery: what is asked, copied, as its texts may be a piece of something large that nobody else needs any more.
func newQuery(q api.Query) *query {
	q.Name, q.Tag = strings.Clone(q.Name), strings.Clone(q.Tag)
	return &query{phase: api.PhaseNew, asked: q}
}

// patience: how long a query waits that asks to wait so long.
func patience(wait uint64) uint64 {
	if wait == 0 {
		return api.NoWait
	}
	return min(wait, api.MaxWait)
}

// ready: would a step change the phase?
func (q *query) ready() bool {
	switch q.phase {
	case api.PhaseNew, api.PhaseHeld:
		return true
	case api.PhaseWait:
		return q.late || q.cancelled || q.watches.First() >= 0
	}
	return false
}

// hold: holds this view, and none that it held before.
func (q *query) hold(v *catalog.View) {
	q.phase, q.view, q.watches = api.PhaseHeld, v, nil
}

// look: the held view's answer is what the query comes to, or it waits for a newer one.
func (q *query) look() {
	answer := health.Answer(q.view, q.asked)
	answer.Ended = q.ending(answer.Index)
	if answer.Ended == 0 {
		q.wait()
		return
	}
	// Nobody needs more of a done query than its answer.
	*q = query{phase: api.PhaseDone, answer: answer}
}

// ending: how a query ends whose view has this index; 0: it doesn't end. What is newer goes ahead of all else: whoever cancels, or whose wait is over, is told of it, too.
func (q *query) ending(index uint64) int {
	switch {
	case q.asked.Min == 0 || index > q.asked.Min:
		return api.EndFresh
	case q.cancelled:
		return api.EndCancel
	case q.late:
		return api.EndTimer
	}
	return 0
}

// wait: waits on the held view's watches. They are fired already if there was a commit since the view was taken, so that none is missed.
func (q *query) wait() {
	tables := health.Tables(q.asked.Kind)
	q.phase, q.watches = api.PhaseWait, watch.NewSet(len(tables))
	for _, table := range tables {
		q.watches.Add(q.view.Heard(table))
	}
}
