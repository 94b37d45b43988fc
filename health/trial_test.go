package health

import (
	"math"
	"slices"
	"strings"
	"testing"

	"muster/api"
	"muster/catalog"
)

// Texts that name no record, and numbers that are no status or no kind.
var (
	oddNames    = []string{"A", "WEB", "Web", "nobody", "web\x00", "\x00", "web ", " web", "we", "webs", "-", "ä", "\xff", "web,db", strings.Repeat("a", 63), strings.Repeat("a", 1022), strings.Repeat("a", 5000), strings.Repeat("\x00", 600)}
	oddStatuses = []int{math.MinInt, -1, 0, 4, 256 + 1, 1<<32 + 1, math.MaxInt}
	oddKinds    = []int{math.MinInt, -1, 0, 7, 256 + 1, 1<<32 + 1, math.MaxInt}
)

// made: a catalog behind these operations, each a commit of its own.
func made(t *testing.T, ops ...api.Op) *catalog.Catalog {
	t.Helper()
	c := catalog.New(1)
	for _, o := range ops {
		commit(t, c, o)
	}
	return c
}

func commit(t *testing.T, c *catalog.Catalog, ops ...api.Op) {
	t.Helper()
	if o := c.Apply(ops); !o.Changed {
		t.Fatalf("Apply(%+v) = %+v", ops, o)
	}
}

// holdAll: all that the view answers is as the model says, by all names, tags and nodes that there are, and some that there aren't.
func holdAll(t *testing.T, v *catalog.View, m *model) {
	t.Helper()
	names, tags, nodes := m.words()
	if got, want := Tallies(v), m.tallies(); !slices.Equal(got, want) {
		t.Fatalf("Tallies: %+v, not %+v", got, want)
	}
	for _, name := range names {
		for _, tag := range tags {
			holdService(t, v, m, name, tag)
		}
	}
	for _, name := range nodes {
		holdAnswer(t, v, m, api.Query{Kind: api.AskNode, Name: name})
	}
	for status := range 5 {
		holdAnswer(t, v, m, api.Query{Kind: api.AskChecks, Status: status})
	}
}

func holdService(t *testing.T, v *catalog.View, m *model, name, tag string) {
	t.Helper()
	for _, passing := range []bool{false, true} {
		if got, want := Instances(v, name, tag, passing), m.instances(name, tag, passing); !sameInstances(got, want) {
			t.Fatalf("Instances(%q, %q, %v): %+v, not %+v", name, tag, passing, got, want)
		}
		for kind := range 8 {
			holdAnswer(t, v, m, api.Query{Kind: kind, Name: name, Tag: tag, Passing: passing, Status: 1 + len(tag)%3, Min: 9, Wait: 9})
		}
	}
	if got, want := Endpoints(v, name, tag), m.endpoints(name, tag); !slices.Equal(got, want) {
		t.Fatalf("Endpoints(%q, %q): %+v, not %+v", name, tag, got, want)
	}
}

func holdAnswer(t *testing.T, v *catalog.View, m *model, q api.Query) {
	t.Helper()
	if got, want := Answer(v, q), m.answer(q); !sameAnswer(got, want) {
		t.Fatalf("Answer(%+v): %+v, not %+v", q, got, want)
	}
}

// words: the names and tags of services and the names of nodes that records have, and some that they haven't.
func (m *model) words() (names, tags, nodes []string) {
	names, tags, nodes = []string{"", "q"}, []string{"", "q"}, []string{"", "q"}
	for _, s := range m.services {
		names = append(names, s.Name)
		tags = append(tags, s.Tags...)
	}
	for _, n := range m.nodes {
		nodes = append(nodes, n.Name)
	}
	for _, list := range []*[]string{&names, &tags, &nodes} {
		slices.Sort(*list)
		*list = slices.Compact(*list)
	}
	return names, tags, nodes
}

// told: which instances they are.
func told(l []api.Instance) string {
	var words []string
	for _, i := range l {
		words = append(words, i.Service.Node+"/"+i.Service.Id)
	}
	return strings.Join(words, " ")
}

// toldChecks: which checks they are.
func toldChecks(l []api.Check) string {
	var words []string
	for _, c := range l {
		words = append(words, c.Id)
	}
	return strings.Join(words, " ")
}

// scrawl: writes over a list, spare room too.
func scrawl[R any](l []R, r R) {
	l = l[:cap(l)]
	for i := range l {
		l[i] = r
	}
}

// Ready operations.

func node(name, addr string) api.Op {
	return api.Op{Kind: api.OpNode, Node: api.Node{Name: name, Addr: addr}}
}

func service(node, id, name string, port int, tags ...string) api.Op {
	return api.Op{Kind: api.OpService, Service: api.Service{Node: node, Id: id, Name: name, Port: port, Tags: tags}}
}

func check(node, id, service string, status int) api.Op {
	return api.Op{Kind: api.OpCheck, Check: api.Check{Node: node, Id: id, Service: service, Status: status, Note: "of " + id}}
}

func dropNode(name string) api.Op {
	return api.Op{Kind: api.DropNode, Node: api.Node{Name: name}}
}

func dropService(node, id string) api.Op {
	return api.Op{Kind: api.DropService, Service: api.Service{Node: node, Id: id}}
}

func dropCheck(node, id string) api.Op {
	return api.Op{Kind: api.DropCheck, Check: api.Check{Node: node, Id: id}}
}
