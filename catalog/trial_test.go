package catalog

import (
	"math"
	"slices"
	"strings"
	"testing"

	"muster/api"
	"muster/watch"
)

// trial holds a catalog against the model: what it answers, what its views show for ever, and what their watches tell.
type trial struct {
	*testing.T
	catalog *Catalog
	now     *model
	held    []heldView
}

// heldView is a view that was taken, its watches that were taken with it, and what it must show for ever.
type heldView struct {
	*View
	want  *model
	heard map[string]*watch.Watch
}

var marked = []string{"nodes", "services", "checks"}

// Texts that are no names of records or tables, and statuses that no check has.
var (
	oddNames    = []string{"", "A", "N1", "nobody", "a\x00", "\x00", "a ", "-", "ä", "a\x01", "\xff", strings.Repeat("a", 63), strings.Repeat("a", 1021), strings.Repeat("a", 1022), strings.Repeat("a", 5000), strings.Repeat("\x00", 600)}
	oddTables   = []string{"", "marks", "Nodes", "NODES", "node", "nodes ", "nodes\x00", "service", "check", "index", "id", "table", "*", "\x00", "\xff", strings.Repeat("n", 1021), strings.Repeat("n", 5000)}
	oddStatuses = []int{math.MinInt, -1, 0, 4, 256 + 1, 1<<32 + 1, math.MaxInt}
)

func newTrial(t *testing.T, first uint64) *trial {
	t.Helper()
	r := &trial{T: t, catalog: New(first), now: newModel(first)}
	r.holdNow()
	return r
}

// apply: applies the list to both, and holds the outcome and all that can be seen; the outcome.
func (r *trial) apply(ops ...api.Op) api.Outcome {
	r.Helper()
	given := copyOps(ops)
	got := r.catalog.Apply(ops)
	next, want := r.now.apply(given)
	if got != want {
		r.Fatalf("Apply(%+v) = %+v, not %+v", given, got, want)
	}
	if !slices.EqualFunc(ops, given, sameOp) {
		r.Fatalf("Apply has made %+v of %+v", ops, given)
	}
	r.now = next
	r.holdNow()
	return got
}

// does: applies the list, whose outcome must be that.
func (r *trial) does(want api.Outcome, ops ...api.Op) {
	r.Helper()
	if got := r.apply(ops...); got != want {
		r.Errorf("Apply(%+v) = %+v, not %+v", ops, got, want)
	}
}

// changes: applies the list, which must be committed with that index.
func (r *trial) changes(index uint64, ops ...api.Op) {
	r.Helper()
	r.does(api.Outcome{Index: index, Changed: true}, ops...)
}

// changesNothing: applies the list, which must be taken and change nothing.
func (r *trial) changesNothing(ops ...api.Op) {
	r.Helper()
	r.does(api.Outcome{Index: r.now.index}, ops...)
}

// refuses: applies the list, which must be refused so.
func (r *trial) refuses(e api.Errno, at int, ops ...api.Op) {
	r.Helper()
	r.does(api.Outcome{Index: r.now.index, Err: e, At: at}, ops...)
}

// marks: the marks must be those.
func (r *trial) marks(nodes, services, checks uint64) {
	r.Helper()
	v := r.catalog.View()
	if v.Mark("nodes") != nodes || v.Mark("services") != services || v.Mark("checks") != checks {
		r.Errorf("marks %d, %d, %d, not %d, %d, %d", v.Mark("nodes"), v.Mark("services"), v.Mark("checks"), nodes, services, checks)
	}
}

// hold: takes a view of now and its watches, to be looked at again later.
func (r *trial) hold() {
	r.Helper()
	v := r.catalog.View()
	heard := map[string]*watch.Watch{}
	for _, table := range marked {
		heard[table] = v.Heard(table)
	}
	r.held = append(r.held, heldView{v, r.now, heard})
}

func (r *trial) holdNow() {
	r.Helper()
	if index := r.catalog.Index(); index != r.now.index {
		r.Fatalf("index %d, not %d", index, r.now.index)
	}
	r.holdView(r.catalog.View(), r.now)
	r.holdHeard()
}

// holdHeard: just those watches are fired whose table's mark has been raised behind the view; whether they are asked for before or behind that.
func (r *trial) holdHeard() {
	r.Helper()
	for _, h := range r.held {
		for _, table := range marked {
			fires := r.now.marks[table] > h.want.marks[table]
			if h.heard[table].Fired() != fires || h.Heard(table).Fired() != fires {
				r.Fatalf("the watch of %q behind index %d: %v, %v, not %v", table, h.want.index, h.heard[table].Fired(), h.Heard(table).Fired(), fires)
			}
		}
	}
}

// holdHeld: all views that were taken show what they showed.
func (r *trial) holdHeld() {
	r.Helper()
	for _, h := range r.held {
		r.holdView(h.View, h.want)
	}
}

func (r *trial) holdView(v *View, want *model) {
	r.Helper()
	if v.Index() != want.index {
		r.Fatalf("the view's index is %d, not %d", v.Index(), want.index)
	}
	for _, table := range marked {
		if v.Mark(table) != want.marks[table] || v.Heard(table) == nil {
			r.Fatalf("the mark of %q is %d, not %d", table, v.Mark(table), want.marks[table])
		}
	}
	holdList(r, "Nodes", v.Nodes(), want.allNodes())
	nodes, serviceNames, ids := want.words()
	for _, name := range nodes {
		r.holdNode(v, want, name)
		for _, id := range ids {
			holdList(r, "ChecksOf "+name+" "+id, v.ChecksOf(name, id), want.checksOf(name, id))
		}
	}
	for _, name := range serviceNames {
		holdList(r, "Services "+name, v.Services(name), want.servicesNamed(name))
	}
	for status := range 5 {
		holdList(r, "ByStatus", v.ByStatus(status), want.byStatus(status))
	}
}

func (r *trial) holdNode(v *View, want *model, name string) {
	r.Helper()
	n, ok := v.Node(name)
	if wantN, wantOk := want.node(name); n != wantN || ok != wantOk {
		r.Fatalf("Node(%q) = %+v, %v, not %+v, %v", name, n, ok, wantN, wantOk)
	}
	holdList(r, "OfNode "+name, v.OfNode(name), want.ofNode(name))
	holdList(r, "Checks "+name, v.Checks(name), want.checksOn(name))
}

func holdList[R any](r *trial, what string, got, want []R) {
	r.Helper()
	if !sameList(got, want) {
		r.Fatalf("%s: %+v, not %+v", what, got, want)
	}
}

// words: the names of nodes, the names of services and the ids of services that records have, and some that they haven't.
func (m *model) words() (nodes, names, ids []string) {
	nodes, names, ids = []string{"", "x"}, []string{"", "x"}, []string{"", "x"}
	for _, n := range m.nodes {
		nodes = append(nodes, n.Name)
	}
	for _, s := range m.services {
		names = append(names, s.Name)
		ids = append(ids, s.Id)
	}
	for _, list := range []*[]string{&nodes, &names, &ids} {
		slices.Sort(*list)
		*list = slices.Compact(*list)
	}
	return nodes, names, ids
}

func copyOps(ops []api.Op) []api.Op {
	copied := slices.Clone(ops)
	for i := range copied {
		copied[i].Service.Tags = slices.Clone(copied[i].Service.Tags)
	}
	return copied
}

func sameOp(a, b api.Op) bool {
	return a.Kind == b.Kind && a.Node == b.Node && same(a.Service, b.Service) && a.Check == b.Check && a.Cas == b.Cas && a.Want == b.Want
}

// Ready operations.

func node(name, addr string) api.Op {
	return api.Op{Kind: api.OpNode, Node: api.Node{Name: name, Addr: addr}}
}

func service(node, id, name string, port int, tags ...string) api.Op {
	return api.Op{Kind: api.OpService, Service: api.Service{Node: node, Id: id, Name: name, Port: port, Tags: tags}}
}

func check(node, id, service string, status int, note string) api.Op {
	return api.Op{Kind: api.OpCheck, Check: api.Check{Node: node, Id: id, Service: service, Status: status, Note: note}}
}

func dropNode(name string) api.Op {
	return api.Op{Kind: api.DropNode, Node: api.Node{Name: name}}
}

func dropService(node, id string) api.Op {
	return api.Op{Kind: api.DropService, Service: api.Service{Node: node, Id: id}}
}

func dropCheck(node, id string) api.Op {
	return api.Op{Kind: api.DropCheck, Check: api.Check{Node: node, Id: id}}
}

// cas: the operation, if the record's Changed is want.
func cas(o api.Op, want uint64) api.Op {
	o.Cas, o.Want = true, want
	return o
}
