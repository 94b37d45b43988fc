package blocking

import (
	"reflect"
	"slices"
	"strconv"
	"testing"

	"muster/api"
	"muster/catalog"
	"muster/health"
)

// The ends of what a time or a number may be.
const (
	lastTime = 1<<64 - 1
	leastInt = -1 << 63
	lastInt  = 1<<63 - 1
)

// history is what became of a catalog: a view and the tables' marks of each of its moments. The marks are told by whoever commits, not asked of the catalog.
type history struct {
	views []*catalog.View
	marks []map[string]uint64
}

func (h *history) last() int { return len(h.views) - 1 }

// index: the index of a kind at that moment.
func (h *history) index(moment, kind int) uint64 {
	index := uint64(0)
	for _, table := range tablesOf(kind) {
		index = max(index, h.marks[moment][table])
	}
	return index
}

// changed: whether a mark of the kind's tables has risen since that moment.
func (h *history) changed(moment, kind int) bool {
	return slices.ContainsFunc(tablesOf(kind), func(table string) bool {
		return h.marks[h.last()][table] > h.marks[moment][table]
	})
}

func tablesOf(kind int) []string {
	switch kind {
	case 1:
		return []string{"nodes"}
	case 2:
		return []string{"services"}
	case 5:
		return []string{"checks"}
	case 3, 4, 6:
		return []string{"nodes", "services", "checks"}
	}
	return nil
}

// asked is what a plain engine knows of a query.
type asked struct {
	query     api.Query
	phase     int
	moment    int // of its held view
	at        uint64
	pending   bool
	fired     bool
	cancelled bool
	ended     int
	// due: how many steps it has done since it has had a reason to end; -1: it has none.
	due int
}

// model is a plain engine: its queries in a list, each found by its id.
type model struct {
	most    int
	now     uint64
	queries []*asked
	history
}

func (m *model) find(id int) *asked {
	if id < 1 || id > len(m.queries) {
		return &asked{}
	}
	return m.queries[id-1]
}

func (a *asked) open() bool { return a.phase >= 1 && a.phase <= 3 }

func (m *model) open() int { return m.count((*asked).open) }

func (m *model) count(is func(*asked) bool) int {
	n := 0
	for _, a := range m.queries {
		if is(a) {
			n++
		}
	}
	return n
}

func (m *model) ask(q api.Query) (int, error) {
	if m.open() >= m.most {
		return 0, api.ErrFull
	}
	a := &asked{query: q, phase: 1, due: -1}
	if q.Min > 0 {
		wait := min(q.Wait, 600)
		if wait == 0 {
			wait = 300
		}
		a.pending, a.at = true, m.now+wait
		if a.at < m.now {
			a.at = lastTime
		}
	}
	m.queries = append(m.queries, a)
	return len(m.queries), nil
}

func (m *model) ready(id int) bool {
	a := m.find(id)
	switch a.phase {
	case 1, 2:
		return true
	case 3:
		return a.fired || a.cancelled || m.changed(a.moment, a.query.Kind)
	}
	return false
}

func (m *model) step(id int) int {
	a := m.find(id)
	if a.open() && a.due >= 0 {
		a.due++
	}
	if !m.ready(id) {
		return a.phase
	}
	if a.phase != 2 {
		a.phase, a.moment = 2, m.last()
		return 2
	}
	switch {
	case a.query.Min == 0 || m.index(a.moment, a.query.Kind) > a.query.Min:
		a.phase, a.ended = 4, 1
	case a.cancelled:
		a.phase, a.ended = 4, 3
	case a.fired:
		a.phase, a.ended = 4, 2
	default:
		a.phase = 3
	}
	if a.phase == 4 {
		a.pending = false
	}
	return a.phase
}

func (m *model) cancel(id int) bool {
	a := m.find(id)
	if !a.open() || a.cancelled {
		return false
	}
	a.cancelled = true
	return true
}

func (m *model) take(id int) (api.Answer, bool) {
	a := m.find(id)
	if a.phase != 4 {
		return api.Answer{}, false
	}
	a.phase = 0
	answer := health.Answer(m.views[a.moment], a.query)
	answer.Ended = a.ended
	return answer, true
}

func (m *model) next() (uint64, bool) {
	least, ok := uint64(0), false
	for _, a := range m.queries {
		if a.pending && (!ok || a.at < least) {
			least, ok = a.at, true
		}
	}
	return least, ok
}

func (m *model) advance(now uint64) (int, int) {
	if now < m.now {
		return 0, 142
	}
	m.now = now
	n := 0
	for _, a := range m.queries {
		if a.pending && a.at <= now {
			a.pending, a.fired = false, true
			n++
		}
	}
	return n, 0
}

// trial plays an engine and a model alike, and fails where they answer unlike.
type trial struct {
	*testing.T
	catalog *catalog.Catalog
	engine  *Engine
	model   *model
	played  []string
}

func newTrial(t *testing.T, most int) *trial { return newTrialFrom(t, most, 1) }

func newTrialFrom(t *testing.T, most int, first uint64) *trial {
	c := catalog.New(first)
	r := &trial{T: t, catalog: c, engine: New(c, most), model: &model{most: max(most, 0)}}
	r.model.marks = []map[string]uint64{{"nodes": first, "services": first, "checks": first}}
	r.model.views = []*catalog.View{c.View()}
	r.stands("new")
	return r
}

func (r *trial) unlike(what string, got, want any) {
	r.Helper()
	r.Fatalf("%s behind %v: %+v, not %+v", what, r.played, got, want)
}

// stands: all that can be asked of the engine is as the model says, and is so however often it is asked for. Nothing is kept of queries that are gone, and of done ones no more than the answer.
func (r *trial) stands(what string) {
	r.Helper()
	r.played = append(r.played, what)
	for range 2 {
		r.clockStands()
		if got, want := r.engine.Open(), r.model.open(); got != want {
			r.unlike("Open", got, want)
		}
		for id := -1; id <= len(r.model.queries)+1; id++ {
			r.queryStands(id)
		}
	}
	r.kept()
}

func (r *trial) clockStands() {
	r.Helper()
	if got, want := r.engine.Now(), r.model.now; got != want {
		r.unlike("Now", got, want)
	}
	got, ok := r.engine.Next()
	want, wantOk := r.model.next()
	if got != want || ok != wantOk {
		r.unlike("Next", got, want)
	}
}

func (r *trial) queryStands(id int) {
	r.Helper()
	a := r.model.find(id)
	if got := r.engine.Phase(id); got != a.phase {
		r.unlike("Phase of "+strconv.Itoa(id), got, a.phase)
	}
	if got, want := r.engine.Ready(id), r.model.ready(id); got != want {
		r.unlike("Ready of "+strconv.Itoa(id), got, want)
	}
	if a.open() && a.due < 0 && (a.fired || a.cancelled || a.query.Min == 0 || r.model.index(r.model.last(), a.query.Kind) > a.query.Min) {
		a.due = 0
	}
	if a.open() && a.due >= 3 {
		r.unlike("steps of "+strconv.Itoa(id)+" since it had a reason to end", a.due, "fewer")
	}
}

func (r *trial) kept() {
	r.Helper()
	if got, want := len(r.engine.queries), r.model.count(func(a *asked) bool { return a.phase != 0 }); got != want {
		r.unlike("the queries that are kept", got, want)
	}
	if got, want := r.engine.wheel.Len(), r.model.count(func(a *asked) bool { return a.pending }); got != want {
		r.unlike("the timers that are kept", got, want)
	}
	for id, q := range r.engine.queries {
		if (q.view != nil) != (q.phase == 2 || q.phase == 3) || (q.watches != nil) != (q.phase == 3) {
			r.unlike("what "+strconv.Itoa(id)+" holds in its phase", q, q.phase)
		}
		if q.phase == 4 && q.asked != (api.Query{}) {
			r.unlike("what is kept of "+strconv.Itoa(id), q.asked, "its answer alone")
		}
	}
}

func (r *trial) ask(q api.Query) int {
	r.Helper()
	want, why := r.model.ask(q)
	got, err := r.engine.Ask(q)
	if got != want || err != why {
		r.unlike("Ask", []any{got, err}, []any{want, why})
	}
	r.stands("ask kind " + strconv.Itoa(q.Kind) + " min " + told(q.Min) + " wait " + told(q.Wait))
	return got
}

func (r *trial) step(id int) int {
	r.Helper()
	ready := r.engine.Ready(id)
	before := r.engine.Phase(id)
	want := r.model.step(id)
	got := r.engine.Step(id)
	if got != want {
		r.unlike("Step of "+strconv.Itoa(id), got, want)
	}
	if ready != (got != before) {
		r.unlike("Ready ahead of the step of "+strconv.Itoa(id), ready, got != before)
	}
	r.stands("step " + strconv.Itoa(id))
	return got
}

// steps: as many steps, which come to these phases.
func (r *trial) steps(id int, phases ...int) {
	r.Helper()
	for _, want := range phases {
		if got := r.step(id); got != want {
			r.unlike("Step of "+strconv.Itoa(id), got, want)
		}
	}
}

func (r *trial) cancel(id int) bool {
	r.Helper()
	want := r.model.cancel(id)
	if got := r.engine.Cancel(id); got != want {
		r.unlike("Cancel of "+strconv.Itoa(id), got, want)
	}
	r.stands("cancel " + strconv.Itoa(id))
	return want
}

// take: the answer is the model's, and is written over behind the comparison: so nobody else may have a part of it.
func (r *trial) take(id int) (api.Answer, bool) {
	r.Helper()
	want, wantOk := r.model.take(id)
	got, ok := r.engine.Take(id)
	if ok != wantOk || !reflect.DeepEqual(got, want) {
		r.unlike("Take of "+strconv.Itoa(id), got, want)
	}
	if ok {
		r.rightEnd(id, got)
	}
	r.stands("take " + strconv.Itoa(id))
	scribble(got)
	return want, wantOk
}

// rightEnd: P15.8 of an answer: its index is the index of its kind at the moment of its last view; if that isn't what was asked for, there was a reason to end.
func (r *trial) rightEnd(id int, got api.Answer) {
	r.Helper()
	a := r.model.find(id)
	if want := r.model.index(a.moment, a.query.Kind); got.Index != want {
		r.unlike("the index of "+strconv.Itoa(id), got.Index, want)
	}
	fresh := a.query.Min == 0 || got.Index > a.query.Min
	if fresh != (got.Ended == 1) || !fresh && !a.fired && !a.cancelled {
		r.unlike("how "+strconv.Itoa(id)+" ended", got, a)
	}
}

// ended: takes the answer, which has this index and this end.
func (r *trial) ended(id int, index uint64, end int) api.Answer {
	r.Helper()
	a, ok := r.take(id)
	if !ok || a.Index != index || a.Ended != end {
		r.unlike("Take of "+strconv.Itoa(id), a, []uint64{index, uint64(end)})
	}
	return a
}

func (r *trial) advance(now uint64) int {
	r.Helper()
	want, wantErr := r.model.advance(now)
	got, err := r.engine.Advance(now)
	if got != want || int(err) != wantErr {
		r.unlike("Advance("+told(now)+")", []int{got, int(err)}, []int{want, wantErr})
	}
	r.stands("advance " + told(now))
	return got
}

// commit: applies a list that changes these tables ("" or none: nothing).
func (r *trial) commit(tables []string, ops ...api.Op) {
	r.Helper()
	index := r.catalog.Index()
	o := r.catalog.Apply(ops)
	if o.Changed != (len(tables) > 0) {
		r.Fatalf("%+v: %+v", ops, o)
	}
	if o.Changed {
		marks := map[string]uint64{}
		for table, mark := range r.model.marks[r.model.last()] {
			marks[table] = mark
		}
		for _, table := range tables {
			marks[table] = index + 1
		}
		r.model.marks = append(r.model.marks, marks)
		r.model.views = append(r.model.views, r.catalog.View())
	}
	r.stands("commit of " + strconv.Itoa(len(tables)) + " tables")
}

// fresh: a name that no record has.
func (r *trial) fresh() string { return "x" + strconv.Itoa(len(r.model.views)) }

// newNode, newService, newCheck: a commit that raises the mark of one table. The latter two need the node a.

func (r *trial) newNode() {
	r.Helper()
	r.commit([]string{"nodes"}, node(r.fresh()))
}

func (r *trial) newService() {
	r.Helper()
	r.commit([]string{"services"}, service("a", r.fresh(), "web"))
}

func (r *trial) newCheck() {
	r.Helper()
	r.commit([]string{"checks"}, check("a", r.fresh(), "", 1))
}

// end: all that is open comes to its end in three steps each, and is taken.
func (r *trial) end() {
	r.Helper()
	r.advance(lastTime)
	for id := range len(r.model.queries) + 2 {
		for range 3 {
			r.step(id)
		}
		r.take(id)
		r.take(id)
		r.cancel(id)
	}
	if r.engine.Open() != 0 || len(r.engine.queries) != 0 {
		r.unlike("what is left at the end", r.engine.Open(), 0)
	}
}

// scribble: writes over an answer's lists, spare room too.
func scribble(a api.Answer) {
	for _, s := range a.Services {
		scrawl(s.Tags, "scrawl")
	}
	for _, i := range a.Instances {
		scrawl(i.Checks, api.Check{Id: "scrawl"})
		scrawl(i.Service.Tags, "scrawl")
	}
	scrawl(a.Nodes, api.Node{Name: "scrawl"})
	scrawl(a.Services, api.Service{Id: "scrawl"})
	scrawl(a.Checks, api.Check{Id: "scrawl"})
	scrawl(a.Instances, api.Instance{Status: 77})
	scrawl(a.Tallies, api.Tally{Name: "scrawl"})
}

func scrawl[R any](l []R, r R) {
	l = l[:cap(l)]
	for i := range l {
		l[i] = r
	}
}

func told(n uint64) string { return strconv.FormatUint(n, 10) }

// Ready operations.

func node(name string) api.Op {
	return api.Op{Kind: api.OpNode, Node: api.Node{Name: name, Addr: "10.0.0.1"}}
}

func service(node, id, name string, tags ...string) api.Op {
	return api.Op{Kind: api.OpService, Service: api.Service{Node: node, Id: id, Name: name, Port: 80, Tags: tags}}
}

func check(node, id, service string, status int) api.Op {
	return api.Op{Kind: api.OpCheck, Check: api.Check{Node: node, Id: id, Service: service, Status: status}}
}

func dropNode(name string) api.Op {
	return api.Op{Kind: api.DropNode, Node: api.Node{Name: name}}
}
