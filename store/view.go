package store

import (
	"slices"
	"strings"

	"muster/api"
	"muster/radix"
	"muster/walk"
	"muster/watch"
)

// View is a look at one state.
type View struct {
	*tables
	tree    *radix.Tree[api.Row]
	version uint64
	// unheard: it is a Write's, whose tree has no watches to hand out.
	unheard bool
}

// Version: the version that the view shows.
func (v *View) Version() uint64 {
	return v.version
}

// Count: how many rows the table has.
func (v *View) Count(table string) (int, api.Errno) {
	at, err := v.first(table)
	if err != api.OK {
		return 0, err
	}
	// A row has just one key in its table's first index.
	return walk.Count(v.tree, at.entryKey("")), api.OK
}

// First: the first row of an index whose key begins so.
func (v *View) First(table, index string, parts []api.Part) (api.Row, bool, *watch.Watch, api.Errno) {
	at, p, err := v.seek(table, index, parts, false)
	if err != api.OK {
		return api.Row{}, false, nil, err
	}
	ask := v.tree.WatchUnder
	if v.index(at).Unique && v.isWhole(at, len(parts)) {
		// No more than the one row can ever be the answer.
		ask = v.tree.Watch
	}
	r, ok := v.least(p)
	return r, ok, v.heard(ask, p), api.OK
}

// List: all rows of an index whose keys begin so.
func (v *View) List(table, index string, parts []api.Part, open bool) ([]api.Row, *watch.Watch, api.Errno) {
	_, p, err := v.seek(table, index, parts, open)
	if err != api.OK {
		return nil, nil, err
	}
	var list []api.Row
	for _, r := range walk.Under(v.tree, p) {
		list = append(list, copyRow(r))
	}
	return list, v.heard(v.tree.WatchUnder, p), api.OK
}

// least: the row at the least entry key that begins with p.
func (v *View) least(p string) (api.Row, bool) {
	for _, r := range walk.Under(v.tree, p) {
		return copyRow(r), true
	}
	return api.Row{}, false
}

// heard: the watch that ask gives for p; none, if the view has no watches.
func (v *View) heard(ask func(string) *watch.Watch, p string) *watch.Watch {
	if v.unheard {
		return nil
	}
	return ask(p)
}

// copyRow: the row in memory of its own, texts too.
func copyRow(r api.Row) api.Row {
	cells := slices.Clone(r.Cells)
	for i, c := range cells {
		cells[i] = api.Cell{Text: strings.Clone(c.Text), Num: c.Num, List: copyTexts(c.List)}
	}
	return api.Row{Cells: cells}
}

func copyTexts(texts []string) []string {
	list := slices.Clone(texts)
	for i, s := range list {
		list[i] = strings.Clone(s)
	}
	return list
}
