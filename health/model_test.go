package health

import (
	"cmp"
	"slices"
	"strconv"
	"strings"

	"muster/api"
	"muster/catalog"
)

// A plain reading of the chapter: all records of a view in three lists, which are gone through from end to end for every answer, and sorted behind that.
type model struct {
	marks    map[string]uint64
	nodes    []api.Node
	services []api.Service
	checks   []api.Check
}

func modelOf(v *catalog.View) *model {
	m := &model{marks: map[string]uint64{}, nodes: v.Nodes(), services: v.Services("")}
	for status := 1; status <= 3; status++ {
		m.checks = append(m.checks, v.ByStatus(status)...)
	}
	for _, table := range []string{"nodes", "services", "checks"} {
		m.marks[table] = v.Mark(table)
	}
	return m
}

func (m *model) instances(name, tag string, passing bool) []api.Instance {
	var found []api.Instance
	for _, s := range m.servicesOf(name, tag) {
		i := api.Instance{Service: s, Status: 1}
		for _, n := range m.nodes {
			if n.Name == s.Node {
				i.Node = n
			}
		}
		for _, c := range m.checks {
			if c.Node == s.Node && (c.Service == "" || c.Service == s.Id) {
				i.Checks = append(i.Checks, c)
				if c.Status > i.Status {
					i.Status = c.Status
				}
			}
		}
		slices.SortFunc(i.Checks, checkOrder)
		if name != "" && (!passing || i.Status == 1) {
			found = append(found, i)
		}
	}
	return found
}

func (m *model) tallies() []api.Tally {
	var names []string
	for _, s := range m.services {
		names = append(names, s.Name)
	}
	slices.Sort(names)
	var found []api.Tally
	for _, name := range slices.Compact(names) {
		t := api.Tally{Name: name}
		for _, i := range m.instances(name, "", false) {
			t.All++
			*[]*int{1: &t.Passing, 2: &t.Warning, 3: &t.Critical}[i.Status]++
		}
		found = append(found, t)
	}
	return found
}

func (m *model) endpoints(name, tag string) []api.Endpoint {
	var found []api.Endpoint
	for _, i := range m.instances(name, tag, true) {
		e := api.Endpoint{Port: i.Service.Port, Node: i.Node.Name}
		for place, word := range strings.Split(i.Node.Addr, ".") {
			n, _ := strconv.Atoi(word)
			e.Addr[place] = byte(n)
		}
		if !slices.ContainsFunc(found, func(f api.Endpoint) bool { return f.Addr == e.Addr && f.Port == e.Port }) {
			found = append(found, e)
		}
	}
	slices.SortFunc(found, func(a, b api.Endpoint) int {
		return cmp.Or(slices.Compare(a.Addr[:], b.Addr[:]), a.Port-b.Port)
	})
	return found
}

func (m *model) servicesOf(name, tag string) []api.Service {
	var found []api.Service
	for _, s := range m.services {
		if (name == "" || s.Name == name) && (tag == "" || slices.Contains(s.Tags, tag)) {
			found = append(found, s)
		}
	}
	slices.SortFunc(found, func(a, b api.Service) int {
		return cmp.Or(cmp.Compare(a.Node, b.Node), cmp.Compare(a.Id, b.Id))
	})
	return found
}

// answer: the kinds and the tables by their numbers and names, as the chapter writes them.
func (m *model) answer(q api.Query) api.Answer {
	var a api.Answer
	tables := map[int]string{1: "nodes", 2: "services", 3: "nodes services checks", 4: "nodes services checks", 5: "checks", 6: "nodes services checks"}
	for _, table := range strings.Fields(tables[q.Kind]) {
		a.Index = max(a.Index, m.marks[table])
	}
	switch q.Kind {
	case 1:
		a.Nodes = m.nodes
	case 2:
		a.Services = m.servicesOf(q.Name, q.Tag)
	case 3:
		a.Nodes = only(m.nodes, func(n api.Node) bool { return n.Name == q.Name })
		a.Services = only(m.servicesOf("", ""), func(s api.Service) bool { return s.Node == q.Name })
		a.Checks = only(m.checks, func(c api.Check) bool { return c.Node == q.Name })
	case 4:
		a.Instances = m.instances(q.Name, q.Tag, q.Passing)
	case 5:
		a.Checks = only(m.checks, func(c api.Check) bool { return c.Status == q.Status })
	case 6:
		a.Tallies = m.tallies()
	}
	slices.SortFunc(a.Checks, checkOrder)
	return a
}

func only[R any](all []R, wanted func(R) bool) []R {
	return slices.DeleteFunc(slices.Clone(all), func(r R) bool { return !wanted(r) })
}

func checkOrder(a, b api.Check) int {
	return cmp.Or(cmp.Compare(a.Node, b.Node), cmp.Compare(a.Id, b.Id))
}

// The comparisons: nil and empty lists are one.

func sameService(a, b api.Service) bool {
	return a.Node == b.Node && a.Id == b.Id && a.Name == b.Name && a.Port == b.Port && slices.Equal(a.Tags, b.Tags) && a.Made == b.Made && a.Changed == b.Changed
}

func sameInstance(a, b api.Instance) bool {
	return a.Node == b.Node && sameService(a.Service, b.Service) && slices.Equal(a.Checks, b.Checks) && a.Status == b.Status
}

func sameInstances(a, b []api.Instance) bool { return slices.EqualFunc(a, b, sameInstance) }

func sameAnswer(a, b api.Answer) bool {
	return a.Index == b.Index && a.Ended == b.Ended && slices.Equal(a.Nodes, b.Nodes) && slices.EqualFunc(a.Services, b.Services, sameService) &&
		slices.Equal(a.Checks, b.Checks) && sameInstances(a.Instances, b.Instances) && slices.Equal(a.Tallies, b.Tallies)
}
