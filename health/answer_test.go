package health

import (
	"math"
	"slices"
	"strings"
	"testing"

	"muster/api"
	"muster/catalog"
)

// P11.5

func TestTables(t *testing.T) {
	for kind, want := range map[int]string{
		api.AskNodes:    "nodes",
		api.AskServices: "services",
		api.AskNode:     "nodes services checks",
		api.AskHealth:   "nodes services checks",
		api.AskChecks:   "checks",
		api.AskNames:    "nodes services checks",
	} {
		got := Tables(kind)
		if strings.Join(got, " ") != want {
			t.Errorf("Tables(%d) = %q, not %q", kind, got, want)
		}
		scrawl(got, "q")
		if again := Tables(kind); strings.Join(again, " ") != want {
			t.Errorf("Tables(%d) behind a scrawl: %q", kind, again)
		}
	}
	for _, kind := range oddKinds {
		if l := Tables(kind); len(l) != 0 {
			t.Errorf("Tables(%d) = %q", kind, l)
		}
	}
}

// P11.6

func filled(t *testing.T) *catalog.Catalog {
	t.Helper()
	c := made(t)
	for _, n := range []string{"b", "a-b", "a"} {
		commit(t, c, node(n, home), service(n, "t", "web", 80, "x"), service(n, "s", "web", 81), service(n, "u", "db", 82, "x", "y"))
		commit(t, c, check(n, "d", "t", 2), check(n, "c", "", 1), check(n, "e", "u", 3))
	}
	return c
}

// Just the parts that the kind names are filled, with what is sought.
func TestAnswerOfEachKind(t *testing.T) {
	v := filled(t).View()
	parts := func(a api.Answer) [5]int {
		return [5]int{len(a.Nodes), len(a.Services), len(a.Checks), len(a.Instances), len(a.Tallies)}
	}
	for _, x := range []struct {
		q    api.Query
		want [5]int
	}{
		{api.Query{Kind: api.AskNodes}, [5]int{3}},
		{api.Query{Kind: api.AskNodes, Name: "a", Tag: "x", Passing: true, Status: 3}, [5]int{3}},
		{api.Query{Kind: api.AskServices}, [5]int{1: 9}},
		{api.Query{Kind: api.AskServices, Name: "web"}, [5]int{1: 6}},
		{api.Query{Kind: api.AskServices, Tag: "x"}, [5]int{1: 6}},
		{api.Query{Kind: api.AskServices, Name: "web", Tag: "x", Passing: true}, [5]int{1: 3}},
		{api.Query{Kind: api.AskServices, Name: "web", Tag: "y"}, [5]int{}},
		{api.Query{Kind: api.AskServices, Name: "nobody"}, [5]int{}},
		{api.Query{Kind: api.AskNode, Name: "a"}, [5]int{1, 3, 3}},
		{api.Query{Kind: api.AskNode, Name: "a", Tag: "y", Passing: true, Status: 3}, [5]int{1, 3, 3}},
		{api.Query{Kind: api.AskNode, Name: "nobody"}, [5]int{}},
		{api.Query{Kind: api.AskNode}, [5]int{}},
		{api.Query{Kind: api.AskHealth, Name: "web"}, [5]int{3: 6}},
		{api.Query{Kind: api.AskHealth, Name: "web", Passing: true}, [5]int{3: 3}},
		{api.Query{Kind: api.AskHealth, Name: "web", Tag: "x"}, [5]int{3: 3}},
		{api.Query{Kind: api.AskHealth, Name: "web", Tag: "x", Passing: true}, [5]int{}},
		{api.Query{Kind: api.AskHealth, Tag: "x"}, [5]int{}},
		{api.Query{Kind: api.AskChecks, Status: api.Passing}, [5]int{2: 3}},
		{api.Query{Kind: api.AskChecks, Status: api.Warning, Name: "a", Tag: "y"}, [5]int{2: 3}},
		{api.Query{Kind: api.AskChecks}, [5]int{}},
		{api.Query{Kind: api.AskNames}, [5]int{4: 2}},
		{api.Query{Kind: api.AskNames, Name: "web", Tag: "y", Passing: true}, [5]int{4: 2}},
	} {
		if a := Answer(v, x.q); parts(a) != x.want || a.Ended != 0 {
			t.Errorf("%+v: %+v", x.q, a)
		}
	}
	holdAll(t, v, modelOf(v))
}

func TestAnswerInOrder(t *testing.T) {
	v := filled(t).View()
	var got []string
	for _, n := range Answer(v, api.Query{Kind: api.AskNodes}).Nodes {
		got = append(got, n.Name)
	}
	for _, s := range Answer(v, api.Query{Kind: api.AskServices, Tag: "x"}).Services {
		got = append(got, s.Node+"/"+s.Id)
	}
	for _, c := range Answer(v, api.Query{Kind: api.AskChecks, Status: api.Critical}).Checks {
		got = append(got, c.Node+"/"+c.Id)
	}
	one := Answer(v, api.Query{Kind: api.AskNode, Name: "a"})
	for _, s := range one.Services {
		got = append(got, s.Id)
	}
	got = append(got, toldChecks(one.Checks), one.Nodes[0].Name)
	if want := "a a-b b a/t a/u a-b/t a-b/u b/t b/u a/e a-b/e b/e s t u c d e a"; strings.Join(got, " ") != want {
		t.Errorf("%q, not %q", got, want)
	}
}

// Each kind's Index is the greatest of its own tables' marks, whether or not the answer has anything.
func TestIndexOfEachKind(t *testing.T) {
	c := catalog.New(5)
	hold := func(nodes, services, checks uint64) {
		t.Helper()
		all := max(nodes, services, checks)
		for kind, want := range map[int]uint64{api.AskNodes: nodes, api.AskServices: services, api.AskNode: all, api.AskHealth: all, api.AskChecks: checks, api.AskNames: all} {
			for _, name := range []string{"", "n", "web", "nobody"} {
				if a := Answer(c.View(), api.Query{Kind: kind, Name: name, Min: 99, Wait: 99}); a.Index != want || a.Ended != 0 {
					t.Errorf("kind %d, name %q: index %d, not %d", kind, name, a.Index, want)
				}
			}
		}
	}
	hold(5, 5, 5)
	commit(t, c, node("n", home))
	hold(6, 5, 5)
	commit(t, c, service("n", "s", "web", 80))
	hold(6, 7, 5)
	commit(t, c, check("n", "c", "s", 1))
	hold(6, 7, 8)
	commit(t, c, service("n", "s", "web", 81))
	hold(6, 9, 8)
	commit(t, c, node("n", other))
	hold(10, 9, 8)
	commit(t, c, dropService("n", "s"))
	hold(10, 11, 11)
	commit(t, c, node("m", other), check("m", "c", "", 1))
	hold(12, 11, 12)
	commit(t, c, dropCheck("m", "c"))
	hold(12, 11, 13)
	commit(t, c, dropNode("m"))
	hold(14, 11, 13)
	if o := c.Apply([]api.Op{dropNode("m")}); o.Changed {
		t.Errorf("%+v", o)
	}
	hold(14, 11, 13)
}

func TestGreatIndex(t *testing.T) {
	c := catalog.New(math.MaxUint64 - 1)
	commit(t, c, node("n", home))
	for kind, want := range map[int]uint64{api.AskNodes: math.MaxUint64, api.AskServices: math.MaxUint64 - 1, api.AskNode: math.MaxUint64, api.AskHealth: math.MaxUint64, api.AskChecks: math.MaxUint64 - 1, api.AskNames: math.MaxUint64} {
		if a := Answer(c.View(), api.Query{Kind: kind}); a.Index != want {
			t.Errorf("kind %d: %d", kind, a.Index)
		}
	}
}

func TestOddQueries(t *testing.T) {
	v := filled(t).View()
	for _, kind := range oddKinds {
		q := api.Query{Kind: kind, Name: "web", Tag: "x", Passing: true, Status: 1, Min: 1, Wait: 1}
		if a := Answer(v, q); !sameAnswer(a, api.Answer{}) {
			t.Errorf("kind %d: %+v", kind, a)
		}
	}
	for _, status := range oddStatuses {
		if a := Answer(v, api.Query{Kind: api.AskChecks, Status: status}); !sameAnswer(a, api.Answer{Index: 7}) {
			t.Errorf("status %d: %+v", status, a)
		}
	}
	for _, name := range slices.Concat(oddNames, []string{""}) {
		for _, kind := range []int{api.AskNode, api.AskHealth} {
			if a := Answer(v, api.Query{Kind: kind, Name: name}); !sameAnswer(a, api.Answer{Index: 7}) {
				t.Errorf("kind %d, name %q: %+v", kind, name, a)
			}
		}
	}
	for _, name := range oddNames {
		if a := Answer(v, api.Query{Kind: api.AskServices, Name: name}); !sameAnswer(a, api.Answer{Index: 6}) {
			t.Errorf("name %q: %+v", name, a)
		}
		if a := Answer(v, api.Query{Kind: api.AskServices, Tag: name}); !sameAnswer(a, api.Answer{Index: 6}) {
			t.Errorf("tag %q: %+v", name, a)
		}
	}
}

// Nodes are found by their own names, services by theirs.
func TestAnswerTakesNamesApart(t *testing.T) {
	v := made(t, node("web", home), node("n", other), service("n", "web", "n", 80, "web"), check("n", "web", "web", 3)).View()
	if a := Answer(v, api.Query{Kind: api.AskNode, Name: "web"}); len(a.Nodes) != 1 || len(a.Services)+len(a.Checks) != 0 {
		t.Errorf("%+v", a)
	}
	if a := Answer(v, api.Query{Kind: api.AskServices, Name: "web"}); len(a.Services) != 0 {
		t.Errorf("%+v", a)
	}
	if a := Answer(v, api.Query{Kind: api.AskHealth, Name: "n"}); len(a.Instances) != 1 || a.Instances[0].Node.Addr != other || a.Instances[0].Status != 3 {
		t.Errorf("%+v", a)
	}
	holdAll(t, v, modelOf(v))
}
