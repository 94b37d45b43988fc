package catalog

import (
	"slices"

	"muster/api"
	"muster/records"
	"muster/store"
	"muster/watch"
)

// View is a look at one state.
type View struct {
	rows *store.View
}

// Index: the index of the view.
func (v *View) Index() uint64 {
	// Each commit raises a mark to its index: the greatest one is the last commit's.
	index := uint64(0)
	for _, table := range tables {
		index = max(index, v.Mark(table))
	}
	return index
}

// Mark: the index of the last commit that changed the table.
func (v *View) Mark(table string) uint64 {
	mark, ok := find(v.rows, marks, texts(table))
	if !ok {
		return 0
	}
	return mark.Cells[markValue].Num
}

// Heard: a watch that is fired when the table's mark rises.
func (v *View) Heard(table string) *watch.Watch {
	_, ok, heard, _ := v.rows.First(marks, byId, texts(table))
	if !ok {
		return nil
	}
	return heard
}

// Node: the node of that name.
func (v *View) Node(name string) (api.Node, bool) {
	r, ok := find(v.rows, nodes, texts(name))
	return records.RowNode(r), ok
}

// Nodes: all nodes.
func (v *View) Nodes() []api.Node {
	return listOf(v.rows, nodes, byId, records.RowNode)
}

// Services: the services of that name ("": all).
func (v *View) Services(name string) []api.Service {
	if name == "" {
		return listOf(v.rows, services, byId, records.RowService)
	}
	return listOf(v.rows, services, byName, records.RowService, texts(name)...)
}

// OfNode: the services on a node.
func (v *View) OfNode(node string) []api.Service {
	return listOf(v.rows, services, byId, records.RowService, texts(node)...)
}

// Checks: the checks on a node.
func (v *View) Checks(node string) []api.Check {
	return listOf(v.rows, checks, byId, records.RowCheck, texts(node)...)
}

// ChecksOf: the checks of a service on a node ("": the node's own).
func (v *View) ChecksOf(node, service string) []api.Check {
	if service == "" {
		// The index by services is loose: it leaves these out.
		return slices.DeleteFunc(v.Checks(node), func(c api.Check) bool { return c.Service != "" })
	}
	return listOf(v.rows, checks, byService, records.RowCheck, texts(node, service)...)
}

// ByStatus: the checks of that status.
func (v *View) ByStatus(status int) []api.Check {
	return listOf(v.rows, checks, byStatus, records.RowCheck, api.Part{Kind: api.PartNum, Num: uint64(status)})
}
