package store

import (
	"slices"

	"muster/api"
	"muster/rows"
)

// tables is the make of all tables. It is embedded wherever tables are sought by name and entry keys are made.
type tables struct {
	schema api.Schema
}

// place is where an index stands: the place of its table, and its own in that table.
type place struct {
	table, index int
}

// first: the place of the table's first index, the one with the id keys.
func (m *tables) first(table string) (place, api.Errno) {
	at := slices.IndexFunc(m.schema.Tables, func(t api.Table) bool { return t.Name == table })
	if at < 0 {
		return place{}, api.ErrTable
	}
	return place{table: at}, api.OK
}

// find: the place of the table's index of that name.
func (m *tables) find(table, index string) (place, api.Errno) {
	at, err := m.first(table)
	if err != api.OK {
		return place{}, err
	}
	indexes := m.schema.Tables[at.table].Indexes
	at.index = slices.IndexFunc(indexes, func(x api.Index) bool { return x.Name == index })
	if at.index < 0 {
		return place{}, api.ErrNoIndex
	}
	return at, api.OK
}

// seek: the place of the table's index of that name, and the entry key of the Probe of parts there.
func (m *tables) seek(table, index string, parts []api.Part, open bool) (place, string, api.Errno) {
	at, err := m.find(table, index)
	if err != api.OK {
		return place{}, "", err
	}
	p, err := m.probe(at, parts, open)
	return at, p, err
}

// isWhole: are that many parts as many as the index has fields?
func (m *tables) isWhole(at place, parts int) bool {
	return parts == len(m.index(at).Over)
}

func (m *tables) index(at place) api.Index {
	return m.schema.Tables[at.table].Indexes[at.index]
}

// probe: the entry key of the Probe of parts.
func (m *tables) probe(at place, parts []api.Part, open bool) (string, api.Errno) {
	key, err := rows.Probe(m.schema.Tables[at.table], at.index, parts, open)
	if err != api.OK {
		return "", err
	}
	return at.entryKey(key), api.OK
}

// entryKeys: the row's entry keys in all indexes of its table, rising: so the one with its id key is the first. The errors are those of Fit.
func (m *tables) entryKeys(at place, r api.Row) ([]string, api.Errno) {
	t := m.schema.Tables[at.table]
	var all []string
	for i := range t.Indexes {
		found, err := rows.Keys(t, i, r)
		if err != api.OK {
			return nil, err
		}
		for _, key := range found {
			all = append(all, place{at.table, i}.entryKey(key))
		}
	}
	return all, api.OK
}

// entryKey: the key's entry key in the index at that place. (There are far less than 256 tables and indexes.)
func (at place) entryKey(key string) string {
	return string([]byte{byte(at.table), byte(at.index)}) + key
}
