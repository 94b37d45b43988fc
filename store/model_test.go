package store

import (
	"maps"
	"slices"
	"strings"

	"muster/api"
	"muster/rows"
)

// A plain reading of the chapter: the rows of each table alone are kept, in no order; all entries are made of them whenever they are asked for.
type model struct {
	schema api.Schema
	rows   [][]api.Row
	// touched: how often each entry key was set or dropped.
	touched map[string]int
}

func newModel(s api.Schema) *model {
	return &model{schema: s, rows: make([][]api.Row, len(s.Tables)), touched: map[string]int{}}
}

// clone: a model with the same rows that has touched nothing.
func (m *model) clone() *model {
	c := newModel(m.schema)
	for t, list := range m.rows {
		c.rows[t] = slices.Clone(list)
	}
	return c
}

func sameRow(a, b api.Row) bool {
	return slices.EqualFunc(a.Cells, b.Cells, func(c, d api.Cell) bool {
		return c.Text == d.Text && c.Num == d.Num && slices.Equal(c.List, d.List)
	})
}

func sameRows(a, b []api.Row) bool { return slices.EqualFunc(a, b, sameRow) }

// cloneRow: the row in lists of its own.
func cloneRow(r api.Row) api.Row {
	r.Cells = slices.Clone(r.Cells)
	for i := range r.Cells {
		r.Cells[i].List = slices.Clone(r.Cells[i].List)
	}
	return r
}

func entryKey(t, i int, key string) string { return string([]byte{byte(t), byte(i)}) + key }

// keysIn: the row's entry keys in one index.
func (m *model) keysIn(t, i int, r api.Row) []string {
	found, e := rows.Keys(m.schema.Tables[t], i, r)
	if e != api.OK {
		panic(e)
	}
	for at := range found {
		found[at] = entryKey(t, i, found[at])
	}
	return found
}

func (m *model) keysOf(t int, r api.Row) []string {
	var all []string
	for i := range m.schema.Tables[t].Indexes {
		all = append(all, m.keysIn(t, i, r)...)
	}
	return all
}

func (m *model) entries() map[string]api.Row {
	all := map[string]api.Row{}
	for t, list := range m.rows {
		for _, r := range list {
			for _, key := range m.keysOf(t, r) {
				all[key] = r
			}
		}
	}
	return all
}

// under: the entry keys that begin with p, rising, and their rows.
func (m *model) under(p string) (keys []string, found []api.Row) {
	all := m.entries()
	for _, key := range slices.Sorted(maps.Keys(all)) {
		if strings.HasPrefix(key, p) {
			keys, found = append(keys, key), append(found, all[key])
		}
	}
	return keys, found
}

func (m *model) tableAt(name string) int {
	return slices.IndexFunc(m.schema.Tables, func(t api.Table) bool { return t.Name == name })
}

// probe: the entry key of the Probe; and whether the index is unique and has no further field.
func (m *model) probe(table, index string, parts []api.Part, open bool) (p string, one bool, e api.Errno) {
	t := m.tableAt(table)
	if t < 0 {
		return "", false, 80
	}
	for i, x := range m.schema.Tables[t].Indexes {
		if x.Name == index {
			key, e := rows.Probe(m.schema.Tables[t], i, parts, open)
			return entryKey(t, i, key), x.Unique && len(x.Over) == len(parts), e
		}
	}
	return "", false, 81
}

// take: takes out the row of the table with the entry key; the row.
func (m *model) take(t int, key string) (api.Row, bool) {
	for at, r := range m.rows[t] {
		if slices.Contains(m.keysOf(t, r), key) {
			m.rows[t] = slices.Delete(slices.Clone(m.rows[t]), at, at+1)
			return r, true
		}
	}
	return api.Row{}, false
}

func (m *model) touch(keys []string) {
	for _, key := range keys {
		m.touched[key]++
	}
}

func (m *model) put(table string, r api.Row) (api.Row, bool, api.Errno) {
	t := m.tableAt(table)
	if t < 0 {
		return api.Row{}, false, 80
	}
	if e := rows.Fit(m.schema.Tables[t], r); e != api.OK {
		return api.Row{}, false, e
	}
	id := m.keysIn(t, 0, r)[0]
	for _, other := range m.rows[t] {
		for i, x := range m.schema.Tables[t].Indexes {
			if m.keysIn(t, 0, other)[0] == id || !x.Unique {
				continue
			}
			for _, key := range m.keysIn(t, i, other) {
				if slices.Contains(m.keysIn(t, i, r), key) {
					return api.Row{}, false, 82
				}
			}
		}
	}
	old, had := m.take(t, id)
	if had {
		m.touch(m.keysOf(t, old))
	}
	m.rows[t] = append(m.rows[t], cloneRow(r))
	m.touch(m.keysOf(t, r))
	return old, had, api.OK
}

func (m *model) drop(table string, parts []api.Part) (api.Row, bool, api.Errno) {
	t := m.tableAt(table)
	if t < 0 {
		return api.Row{}, false, 80
	}
	if len(parts) < len(m.schema.Tables[t].Indexes[0].Over) {
		return api.Row{}, false, 76
	}
	id, _, e := m.probe(table, "id", parts, false)
	if e != api.OK {
		return api.Row{}, false, e
	}
	old, had := m.take(t, id)
	if had {
		m.touch(m.keysOf(t, old))
	}
	return old, had, api.OK
}

func (m *model) dropAll(table, index string, parts []api.Part) (int, api.Errno) {
	p, _, e := m.probe(table, index, parts, false)
	if e != api.OK {
		return 0, e
	}
	t, count := m.tableAt(table), 0
	for {
		keys, _ := m.under(p)
		if len(keys) == 0 {
			return count, api.OK
		}
		r, _ := m.take(t, keys[0])
		m.touch(m.keysOf(t, r))
		count++
	}
}
