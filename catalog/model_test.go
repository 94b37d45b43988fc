package catalog

import (
	"cmp"
	"maps"
	"math"
	"slices"

	"muster/api"
	"muster/records"
)

// A plain reading of the chapter: the records of each table in a list, in no order; every answer is sought and sorted when it is asked for.
type model struct {
	index    uint64
	marks    map[string]uint64
	nodes    []api.Node
	services []api.Service
	checks   []api.Check
}

func newModel(first uint64) *model {
	if first == 0 {
		first = 1
	}
	return &model{index: first, marks: map[string]uint64{"nodes": first, "services": first, "checks": first}}
}

func (m *model) clone() *model {
	return &model{m.index, maps.Clone(m.marks), slices.Clone(m.nodes), slices.Clone(m.services), slices.Clone(m.checks)}
}

// apply: the model behind the list, which is m itself if nothing has changed.
func (m *model) apply(ops []api.Op) (*model, api.Outcome) {
	if len(ops) < 1 || len(ops) > 64 {
		return m, api.Outcome{Index: m.index, Err: 103}
	}
	now := m.clone()
	if m.index == math.MaxUint64 {
		now.index = 0
	} else {
		now.index++
	}
	changed := map[string]int{}
	for at, o := range ops {
		if e := now.one(o, changed); e != api.OK {
			return m, api.Outcome{Index: m.index, Err: e, At: at}
		}
	}
	if len(changed) == 0 {
		return m, api.Outcome{Index: m.index}
	}
	if m.index == math.MaxUint64 {
		return m, api.Outcome{Index: m.index, Err: 104}
	}
	for table := range changed {
		now.marks[table] = now.index
	}
	return now, api.Outcome{Index: now.index, Changed: true}
}

// one: applies one operation, and counts the changed records of each table; m's index is the new one.
func (m *model) one(given api.Op, changed map[string]int) api.Errno {
	o, e := records.FixOp(given)
	if e != api.OK {
		return e
	}
	isNode := func(n api.Node) bool { return n.Name == o.Node.Name }
	isService := func(s api.Service) bool { return s.Node == o.Service.Node && s.Id == o.Service.Id }
	isCheck := func(c api.Check) bool { return c.Node == o.Check.Node && c.Id == o.Check.Id }
	stale := func(is uint64) bool { return o.Cas && o.Want != is }
	switch o.Kind {
	case api.OpNode:
		return put(&m.nodes, isNode, stale, o.Node, func(n *api.Node) (*uint64, *uint64) { return &n.Made, &n.Changed }, m.index, func() { changed["nodes"]++ })
	case api.OpService:
		if !m.hasNode(o.Service.Node) {
			return 100
		}
		return put(&m.services, isService, stale, o.Service, func(s *api.Service) (*uint64, *uint64) { return &s.Made, &s.Changed }, m.index, func() { changed["services"]++ })
	case api.OpCheck:
		if !m.hasNode(o.Check.Node) {
			return 100
		}
		if o.Check.Service != "" && !m.hasService(o.Check.Node, o.Check.Service) {
			return 101
		}
		return put(&m.checks, isCheck, stale, o.Check, func(c *api.Check) (*uint64, *uint64) { return &c.Made, &c.Changed }, m.index, func() { changed["checks"]++ })
	case api.DropNode:
		at := slices.IndexFunc(m.nodes, isNode)
		if at < 0 && stale(0) || at >= 0 && stale(m.nodes[at].Changed) {
			return 102
		}
		if at >= 0 {
			take(&m.nodes, isNode, "nodes", changed)
			take(&m.services, func(s api.Service) bool { return s.Node == o.Node.Name }, "services", changed)
			take(&m.checks, func(c api.Check) bool { return c.Node == o.Node.Name }, "checks", changed)
		}
	case api.DropService:
		at := slices.IndexFunc(m.services, isService)
		if at < 0 && stale(0) || at >= 0 && stale(m.services[at].Changed) {
			return 102
		}
		if at >= 0 {
			take(&m.services, isService, "services", changed)
			take(&m.checks, func(c api.Check) bool { return c.Node == o.Service.Node && c.Service == o.Service.Id }, "checks", changed)
		}
	case api.DropCheck:
		at := slices.IndexFunc(m.checks, isCheck)
		if at < 0 && stale(0) || at >= 0 && stale(m.checks[at].Changed) {
			return 102
		}
		take(&m.checks, isCheck, "checks", changed)
	}
	return api.OK
}

func (m *model) hasNode(name string) bool {
	return slices.ContainsFunc(m.nodes, func(n api.Node) bool { return n.Name == name })
}

func (m *model) hasService(node, id string) bool {
	return slices.ContainsFunc(m.services, func(s api.Service) bool { return s.Node == node && s.Id == id })
}

// put: makes or changes the one record that is the operation's.
func put[R any](all *[]R, is func(R) bool, stale func(uint64) bool, r R, stamps func(*R) (*uint64, *uint64), index uint64, changed func()) api.Errno {
	made, last := stamps(&r)
	at := slices.IndexFunc(*all, is)
	if at < 0 {
		if stale(0) {
			return 102
		}
		*made, *last = index, index
		*all = append(*all, r)
		changed()
		return api.OK
	}
	oldMade, oldLast := stamps(&(*all)[at])
	if stale(*oldLast) {
		return 102
	}
	*made, *last = *oldMade, *oldLast
	if same(r, (*all)[at]) {
		return api.OK
	}
	*last = index
	(*all)[at] = r
	changed()
	return api.OK
}

func take[R any](all *[]R, is func(R) bool, table string, changed map[string]int) {
	rest := slices.DeleteFunc(slices.Clone(*all), is)
	if len(rest) < len(*all) {
		*all = rest
		changed[table]++
	}
}

// same: are the records alike, nil and empty tags being one?
func same[R any](a, b R) bool {
	switch x := any(a).(type) {
	case api.Node:
		return x == any(b).(api.Node)
	case api.Check:
		return x == any(b).(api.Check)
	case api.Service:
		y := any(b).(api.Service)
		return x.Node == y.Node && x.Id == y.Id && x.Name == y.Name && x.Port == y.Port && slices.Equal(x.Tags, y.Tags) && x.Made == y.Made && x.Changed == y.Changed
	}
	panic("no record")
}

func sameList[R any](a, b []R) bool { return slices.EqualFunc(a, b, same[R]) }

// sought: those that are wanted, in order.
func sought[R any](all []R, wanted func(R) bool, order func(a, b R) int) []R {
	found := slices.DeleteFunc(slices.Clone(all), func(r R) bool { return !wanted(r) })
	slices.SortFunc(found, order)
	return found
}

func nodeOrder(a, b api.Node) int { return cmp.Compare(a.Name, b.Name) }

func serviceOrder(a, b api.Service) int {
	return cmp.Or(cmp.Compare(a.Node, b.Node), cmp.Compare(a.Id, b.Id))
}

func checkOrder(a, b api.Check) int {
	return cmp.Or(cmp.Compare(a.Node, b.Node), cmp.Compare(a.Id, b.Id))
}

func (m *model) node(name string) (api.Node, bool) {
	for _, n := range m.nodes {
		if n.Name == name {
			return n, true
		}
	}
	return api.Node{}, false
}

func (m *model) allNodes() []api.Node {
	return sought(m.nodes, func(api.Node) bool { return true }, nodeOrder)
}

func (m *model) servicesNamed(name string) []api.Service {
	return sought(m.services, func(s api.Service) bool { return name == "" || s.Name == name }, serviceOrder)
}

func (m *model) ofNode(node string) []api.Service {
	return sought(m.services, func(s api.Service) bool { return s.Node == node }, serviceOrder)
}

func (m *model) checksOn(node string) []api.Check {
	return sought(m.checks, func(c api.Check) bool { return c.Node == node }, checkOrder)
}

func (m *model) checksOf(node, service string) []api.Check {
	return sought(m.checks, func(c api.Check) bool { return c.Node == node && c.Service == service }, checkOrder)
}

func (m *model) byStatus(status int) []api.Check {
	return sought(m.checks, func(c api.Check) bool { return c.Status == status }, checkOrder)
}
