package store

import (
	"maps"
	"slices"
	"strings"
	"testing"

	"muster/api"
	"muster/schema"
	"muster/txn"
	"muster/walk"
	"muster/watch"
)

// trial holds a store against the model, and each commit against a base with the same keys.
type trial struct {
	*testing.T
	store   *Store
	now     *model
	version uint64
	mirror  *txn.Base[int]
	asks    []ask
	held    []heldView
	heard   []heldWatch
}

// ask is a query: of List, and of First too, if it isn't open.
type ask struct {
	table, index string
	parts        []api.Part
	open         bool
}

// heldView is a view, and what it must show for ever.
type heldView struct {
	*View
	want    *model
	version uint64
}

// heldWatch is a watch that must be fired by the first commit that touches its key, if it is one key's, or a key that begins so.
type heldWatch struct {
	*watch.Watch
	ask     ask
	key     string
	one     bool
	fires   bool
	answers []api.Row
}

func newTrial(t *testing.T, text string, asks []ask) *trial {
	t.Helper()
	s, line, e := New(text)
	if s == nil || line != 0 || e != api.OK {
		t.Fatalf("New(%q) = %v, %d, %d", text, s, line, e)
	}
	made, _, _ := schema.Parse(text)
	return &trial{T: t, store: s, now: newModel(made), mirror: txn.New[int](), asks: asks}
}

// holdAsk: holds First and List of one query against the model; the model's list.
func (r *trial) holdAsk(v *View, want *model, a ask) []api.Row {
	r.Helper()
	p, _, wantE := want.probe(a.table, a.index, a.parts, a.open)
	var found []api.Row
	if wantE == api.OK {
		_, found = want.under(p)
	}
	list, w, e := v.List(a.table, a.index, a.parts, a.open)
	if !sameRows(list, found) || e != wantE || e != api.OK && w != nil {
		r.Fatalf("List(%q, %q, %v, %v) = %v, %v, %d, not %v, %d", a.table, a.index, a.parts, a.open, list, w, e, found, wantE)
	}
	if a.open {
		return found
	}
	least, ok, w, e := v.First(a.table, a.index, a.parts)
	if ok != (len(found) > 0) || e != wantE || e != api.OK && w != nil || ok && !sameRow(least, found[0]) || !ok && len(least.Cells) != 0 {
		r.Fatalf("First(%q, %q, %v) = %v, %v, %v, %d, not the first of %v, %d", a.table, a.index, a.parts, least, ok, w, e, found, wantE)
	}
	return found
}

// holdView: holds the view's version, counts and entries against the model, and the answers to the queries.
func (r *trial) holdView(v *View, want *model, version uint64, asks []ask) {
	r.Helper()
	if v.Version() != version {
		r.Fatalf("version %d, not %d", v.Version(), version)
	}
	for t, make := range want.schema.Tables {
		if n, e := v.Count(make.Name); n != len(want.rows[t]) || e != api.OK {
			r.Fatalf("Count(%q) = %d, %d, not %d", make.Name, n, e, len(want.rows[t]))
		}
	}
	if got := maps.Collect(walk.All(v.tree)); !maps.EqualFunc(got, want.entries(), sameRow) {
		r.Fatalf("the entries are %v, not %v", got, want.entries())
	}
	for _, a := range asks {
		r.holdAsk(v, want, a)
	}
}

// holdOwn: holds the Write's own view and the keys that it has touched against the model; and the store, which has seen nothing.
func (r *trial) holdOwn(w *Write, own *model, asks []ask) {
	r.Helper()
	r.holdView(w.View(), own, r.version, asks)
	if got, want := w.txn.Touched(), slices.Sorted(maps.Keys(own.touched)); !slices.Equal(got, want) {
		r.Fatalf("touched are %q, not %q", got, want)
	}
	if r.store.base.Tree() != r.store.View().tree {
		r.Fatal("a view of another tree")
	}
	r.holdView(r.store.View(), r.now, r.version, nil)
	r.holdHeard()
}

func (r *trial) begin() (*Write, *model) {
	r.Helper()
	w, e := r.store.Begin()
	if w == nil || e != api.OK {
		r.Fatalf("Begin = %v, %d", w, e)
	}
	if other, e := r.store.Begin(); other != nil || e != api.ErrOpen {
		r.Fatalf("a second Begin = %v, %d", other, e)
	}
	return w, r.now.clone()
}

func (r *trial) put(w *Write, own *model, table string, row api.Row) {
	r.Helper()
	given := cloneRow(row)
	old, had, e := w.Put(table, row)
	want, wantHad, wantE := own.put(table, given)
	if !sameRow(old, want) || had != wantHad || e != wantE {
		r.Fatalf("Put(%q, %v) = %v, %v, %d, not %v, %v, %d", table, row, old, had, e, want, wantHad, wantE)
	}
	if !sameRow(row, given) {
		r.Fatalf("Put has made %v of %v", row, given)
	}
}

func (r *trial) drop(w *Write, own *model, table string, parts []api.Part) {
	r.Helper()
	given := slices.Clone(parts)
	old, had, e := w.Drop(table, parts)
	want, wantHad, wantE := own.drop(table, given)
	if !sameRow(old, want) || had != wantHad || e != wantE {
		r.Fatalf("Drop(%q, %v) = %v, %v, %d, not %v, %v, %d", table, parts, old, had, e, want, wantHad, wantE)
	}
	if !slices.Equal(parts, given) {
		r.Fatalf("Drop has made %v of %v", parts, given)
	}
}

func (r *trial) dropAll(w *Write, own *model, a ask) {
	r.Helper()
	given := slices.Clone(a.parts)
	n, e := w.DropAll(a.table, a.index, a.parts)
	if want, wantE := own.dropAll(a.table, a.index, given); n != want || e != wantE {
		r.Fatalf("DropAll(%q, %q, %v) = %d, %d, not %d, %d", a.table, a.index, a.parts, n, e, want, wantE)
	}
	if !slices.Equal(a.parts, given) {
		r.Fatalf("DropAll has made %v of %v", a.parts, given)
	}
}

// mirrored: does to the mirror what a commit must do: how many watches that fires.
func (r *trial) mirrored(own *model) int {
	r.Helper()
	x, _ := r.mirror.Begin()
	entries := own.entries()
	for key := range own.touched {
		x.Set(key, 0)
		if _, stays := entries[key]; !stays {
			x.Drop(key)
		}
	}
	n, _ := x.Commit()
	return n
}

// commit: commits, and checks all that must have come of it.
func (r *trial) commit(w *Write, own *model) {
	r.Helper()
	inner := w.View()
	want := r.mirrored(own)
	n, e := w.Commit()
	if n != want || e != api.OK {
		r.Fatalf("Commit = %d, %d, not %d, touching %q", n, e, want, slices.Sorted(maps.Keys(own.touched)))
	}
	r.holdView(inner, own, r.version, nil)
	if len(own.touched) > 0 {
		r.version++
	}
	r.now = own
	r.holdEnded(w)
	r.holdView(r.store.View(), r.now, r.version, r.asks)
	for i := range r.heard {
		for key := range own.touched {
			if key == r.heard[i].key || !r.heard[i].one && strings.HasPrefix(key, r.heard[i].key) {
				r.heard[i].fires = true
			}
		}
	}
	r.holdHeard()
}

// abort: aborts, and checks that nothing has been.
func (r *trial) abort(w *Write) {
	r.Helper()
	before := r.store.View().tree
	if e := w.Abort(); e != api.OK {
		r.Fatalf("Abort = %d", e)
	}
	if r.store.View().tree != before {
		r.Fatal("Abort has changed the tree")
	}
	r.holdEnded(w)
	r.holdView(r.store.View(), r.now, r.version, nil)
	r.holdHeard()
}

// holdEnded: the Write's calls behind its end, whatever they are given.
func (r *trial) holdEnded(w *Write) {
	r.Helper()
	if w.View() != nil {
		r.Fatal("a view behind the end")
	}
	for _, table := range []string{r.now.schema.Tables[0].Name, "nowhere"} {
		if old, had, e := w.Put(table, api.Row{}); len(old.Cells) != 0 || had || e != api.ErrOver {
			r.Fatalf("Put behind the end = %v, %v, %d", old, had, e)
		}
		if old, had, e := w.Drop(table, nil); len(old.Cells) != 0 || had || e != api.ErrOver {
			r.Fatalf("Drop behind the end = %v, %v, %d", old, had, e)
		}
		if n, e := w.DropAll(table, "id", nil); n != 0 || e != api.ErrOver {
			r.Fatalf("DropAll behind the end = %d, %d", n, e)
		}
	}
	if n, e := w.Commit(); n != 0 || e != api.ErrOver {
		r.Fatalf("Commit behind the end = %d, %d", n, e)
	}
	if e := w.Abort(); e != api.ErrOver {
		r.Fatalf("Abort behind the end = %d", e)
	}
}

// hold: takes a view of now, and the watches of all queries, to be looked at again later.
func (r *trial) hold() {
	r.Helper()
	v := r.store.View()
	r.held = append(r.held, heldView{v, r.now.clone(), r.version})
	for _, a := range r.asks {
		p, one, e := r.now.probe(a.table, a.index, a.parts, a.open)
		if e != api.OK {
			continue
		}
		answers := r.holdAsk(v, r.now, a)
		reach := r.mirror.Tree().Reach(p)
		_, w, _ := v.List(a.table, a.index, a.parts, a.open)
		r.hear(heldWatch{w, a, reach, false, false, answers}, v.tree.WatchUnder(p))
		if a.open {
			continue
		}
		_, ok, w, _ := v.First(a.table, a.index, a.parts)
		if one && ok {
			r.hear(heldWatch{w, a, p, true, false, answers}, v.tree.Watch(p))
		} else {
			r.hear(heldWatch{w, a, reach, false, false, answers}, v.tree.WatchUnder(p))
		}
	}
}

func (r *trial) hear(h heldWatch, want *watch.Watch) {
	r.Helper()
	if h.Watch == nil || h.Watch != want || h.Fired() {
		r.Fatalf("%v: the watch isn't the one of %q", h.ask, h.key)
	}
	r.heard = append(r.heard, h)
}

// holdHeard: just those watches are fired that must be; and all whose answer is another now.
func (r *trial) holdHeard() {
	r.Helper()
	for _, h := range r.heard {
		if h.Fired() != h.fires {
			r.Fatalf("%v: the watch of %q is fired: %v", h.ask, h.key, h.Fired())
		}
		if h.fires {
			continue
		}
		if list, _, _ := r.store.View().List(h.ask.table, h.ask.index, h.ask.parts, h.ask.open); !sameRows(list, h.answers) {
			r.Fatalf("%v: nobody has heard that the answer is %v", h.ask, list)
		}
	}
}

// holdHeld: all views that were taken show what they showed.
func (r *trial) holdHeld() {
	r.Helper()
	for _, h := range r.held {
		r.holdView(h.View, h.want, h.version, r.asks)
	}
}
