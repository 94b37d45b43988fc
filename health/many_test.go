package health

import (
	"sync"
	"testing"

	"muster/api"
)

// What is handed out is new memory: writing over it, spare room too, changes neither what is answered next nor another list of the same answer.
func TestAnswersAreNew(t *testing.T) {
	c := made(t, node("n", home), node("m", home),
		service("n", "s", "web", 80, "x", "y"), service("n", "t", "web", 81, "x", "y"), service("m", "s", "web", 82, "x"),
		check("n", "a", "", 1), check("n", "b", "", 1), check("n", "c", "", 1), check("n", "d", "s", 1), check("n", "e", "t", 1), check("m", "a", "", 2))
	v := c.View()
	m := modelOf(v)
	bad := api.Check{Node: "q", Status: 9}
	want := m.instances("web", "", false)
	for at := range want {
		l := Instances(v, "web", "", false)
		scrawl(l[at].Checks, bad)
		scrawl(l[at].Service.Tags, "q")
		for i := range l {
			if i != at && !sameInstance(l[i], want[i]) {
				t.Errorf("instances %d and %d share memory", at, i)
			}
		}
		scrawl(l, api.Instance{})
		holdAll(t, v, m)
	}
	scrawl(Tallies(v), api.Tally{Name: "q"})
	scrawl(Endpoints(v, "web", "x"), api.Endpoint{Port: 1})
	for kind := range 8 {
		a := Answer(v, api.Query{Kind: kind, Name: []string{"web", "n"}[kind%2], Status: 1})
		for _, s := range a.Services {
			scrawl(s.Tags, "q")
		}
		for _, i := range a.Instances {
			scrawl(i.Checks, bad)
			scrawl(i.Service.Tags, "q")
		}
		scrawl(a.Nodes, api.Node{Name: "q"})
		scrawl(a.Services, api.Service{Node: "q"})
		scrawl(a.Checks, bad)
		scrawl(a.Instances, api.Instance{})
		scrawl(a.Tallies, api.Tally{Name: "q"})
		holdAll(t, v, m)
	}
	holdAll(t, c.View(), m)
}

// A view answers for ever as of its moment.
func TestViewsStay(t *testing.T) {
	c := filled(t)
	v := c.View()
	m := modelOf(v)
	commit(t, c, dropNode("a"), node("b", other), service("b", "s", "db", 1, "z"), check("b", "c", "", 3), node("z", home))
	holdAll(t, v, m)
	holdAll(t, c.View(), modelOf(c.View()))
	commit(t, c, dropNode("b"), dropNode("a-b"), dropNode("z"))
	holdAll(t, v, m)
	holdAll(t, c.View(), modelOf(c.View()))
}

// One view can be asked by many at once, while others write.
func TestManyAskOneView(t *testing.T) {
	c := filled(t)
	v := c.View()
	m := modelOf(v)
	instances, tallies, endpoints := m.instances("web", "", false), m.tallies(), m.endpoints("web", "")
	var all sync.WaitGroup
	for range 4 {
		all.Go(func() {
			for range 30 {
				if got := Answer(v, api.Query{Kind: api.AskHealth, Name: "web"}); !sameInstances(got.Instances, instances) {
					t.Errorf("%+v", got)
				}
				if got := Answer(v, api.Query{Kind: api.AskNames}); !sameAnswer(got, api.Answer{Index: 7, Tallies: tallies}) {
					t.Errorf("%+v", got)
				}
				got := Endpoints(v, "web", "")
				if len(got) != len(endpoints) || got[0] != endpoints[0] {
					t.Errorf("%+v", got)
				}
				scrawl(got, api.Endpoint{})
			}
		})
	}
	for i := range 50 {
		c.Apply([]api.Op{dropNode("a"), node("a", other), service("a", "s", "web", 1+i), check("a", "c", "", 1+i%3)})
	}
	all.Wait()
}
