package catalog

import (
	"slices"

	"muster/api"
	"muster/records"
	"muster/store"
)

// The names of layer 9's tables.
const (
	nodes    = "nodes"
	services = "services"
	checks   = "checks"
	marks    = "marks"
)

// The names of the tables' indexes.
const (
	byId      = "id"
	byName    = "name"
	byService = "service"
	byStatus  = "status"
)

// tables are those that have a mark.
var tables = [...]string{nodes, services, checks}

// The places of a mark's fields.
const (
	markTable = iota
	markValue
)

func markRow(table string, value uint64) api.Row {
	return api.Row{Cells: []api.Cell{markTable: {Text: table}, markValue: {Num: value}}}
}

// stamps are the indexes at which a record was made and last changed.
type stamps struct {
	made, changed uint64
}

// named: the table of the record that the operation names, and its id there.
func named(o api.Op) (string, []api.Part) {
	switch o.Kind {
	case api.OpNode, api.DropNode:
		return nodes, texts(o.Node.Name)
	case api.OpService, api.DropService:
		return services, texts(o.Service.Node, o.Service.Id)
	}
	return checks, texts(o.Check.Node, o.Check.Id)
}

// rowOf: the row of the operation's record with those stamps.
func rowOf(o api.Op, s stamps) api.Row {
	switch o.Kind {
	case api.OpNode:
		o.Node.Made, o.Node.Changed = s.made, s.changed
		return records.NodeRow(o.Node)
	case api.OpService:
		o.Service.Made, o.Service.Changed = s.made, s.changed
		return records.ServiceRow(o.Service)
	}
	o.Check.Made, o.Check.Changed = s.made, s.changed
	return records.CheckRow(o.Check)
}

// stampsOf: the stamps of the table's row; of a row without cells: zero ones.
func stampsOf(table string, r api.Row) stamps {
	switch table {
	case nodes:
		n := records.RowNode(r)
		return stamps{n.Made, n.Changed}
	case services:
		s := records.RowService(r)
		return stamps{s.Made, s.Changed}
	}
	c := records.RowCheck(r)
	return stamps{c.Made, c.Changed}
}

func sameRow(a, b api.Row) bool {
	return slices.EqualFunc(a.Cells, b.Cells, func(c, d api.Cell) bool {
		return c.Text == d.Text && c.Num == d.Num && slices.Equal(c.List, d.List)
	})
}

// find: the table's row with that id.
func find(v *store.View, table string, id []api.Part) (api.Row, bool) {
	// An id that is too long for a key is refused: no row has it.
	r, ok, _, _ := v.First(table, byId, id)
	return r, ok
}

func has(v *store.View, table string, id ...string) bool {
	_, ok := find(v, table, texts(id...))
	return ok
}

// listOf: the records of the rows of an index whose keys begin so.
func listOf[R any](v *store.View, table, index string, record func(api.Row) R, parts ...api.Part) []R {
	// Parts that are too long for a key are refused: no row has them.
	rows, _, _ := v.List(table, index, parts, false)
	var found []R
	for _, r := range rows {
		found = append(found, record(r))
	}
	return found
}

// texts: a part for each word.
func texts(words ...string) []api.Part {
	var parts []api.Part
	for _, word := range words {
		parts = append(parts, api.Part{Kind: api.PartText, Text: word})
	}
	return parts
}
