package health

import (
	"muster/api"
	"muster/catalog"
)

// The names of the catalog's tables.
const (
	nodes    = "nodes"
	services = "services"
	checks   = "checks"
)

// Tables: the tables on which a kind's answer hangs.
func Tables(kind int) []string {
	switch kind {
	case api.AskNodes:
		return []string{nodes}
	case api.AskServices:
		return []string{services}
	case api.AskNode, api.AskHealth, api.AskNames:
		return []string{nodes, services, checks}
	case api.AskChecks:
		return []string{checks}
	}
	return nil
}

// Answer: what the view answers.
func Answer(v *catalog.View, q api.Query) api.Answer {
	a := api.Answer{Index: greatestMark(v, Tables(q.Kind))}
	switch q.Kind {
	case api.AskNodes:
		a.Nodes = v.Nodes()
	case api.AskServices:
		a.Services = tagged(v.Services(q.Name), q.Tag)
	case api.AskNode:
		if n, ok := v.Node(q.Name); ok {
			a.Nodes = []api.Node{n}
			a.Services = v.OfNode(q.Name)
			a.Checks = v.Checks(q.Name)
		}
	case api.AskHealth:
		a.Instances = Instances(v, q.Name, q.Tag, q.Passing)
	case api.AskChecks:
		a.Checks = v.ByStatus(q.Status)
	case api.AskNames:
		a.Tallies = Tallies(v)
	}
	return a
}

// greatestMark: the index of the last commit that changed one of the tables; 0, if there are none.
func greatestMark(v *catalog.View, tables []string) uint64 {
	greatest := uint64(0)
	for _, table := range tables {
		greatest = max(greatest, v.Mark(table))
	}
	return greatest
}
