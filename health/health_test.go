package health

import (
	"math"
	"slices"
	"strconv"
	"strings"
	"testing"

	"muster/api"
)

const (
	home  = "10.0.0.1"
	other = "10.0.0.2"
)

func TestNumbers(t *testing.T) {
	for i, kind := range []int{api.AskNodes, api.AskServices, api.AskNode, api.AskHealth, api.AskChecks, api.AskNames} {
		if kind != 1+i {
			t.Errorf("kind %d is %d", 1+i, kind)
		}
	}
	if api.Passing != 1 || api.Warning != 2 || api.Critical != 3 {
		t.Errorf("%d, %d, %d", api.Passing, api.Warning, api.Critical)
	}
}

func TestChapterExample(t *testing.T) {
	v := made(t, node("n1", home), check("n1", "alive", "", api.Passing), service("n1", "w1", "web", 80), check("n1", "up", "w1", api.Warning)).View()
	l := Instances(v, "web", "", false)
	if len(l) != 1 || len(l[0].Checks) != 2 || l[0].Status != api.Warning {
		t.Errorf("%+v", l)
	}
	if l := Instances(v, "web", "", true); len(l) != 0 {
		t.Errorf("%+v", l)
	}
	if l := Tallies(v); !slices.Equal(l, []api.Tally{{Name: "web", All: 1, Warning: 1}}) {
		t.Errorf("%+v", l)
	}
}

// P11.1

func TestWorst(t *testing.T) {
	for _, x := range []struct {
		statuses []int
		want     int
	}{
		{nil, 1},
		{[]int{}, 1},
		{[]int{1}, 1},
		{[]int{2}, 2},
		{[]int{3}, 3},
		{[]int{1, 1, 1}, 1},
		{[]int{1, 2, 1}, 2},
		{[]int{3, 2, 1}, 3},
		{[]int{1, 2, 3}, 3},
		{[]int{2, 3, 2}, 3},
		// No statuses, but numbers.
		{[]int{0}, 1},
		{[]int{-1}, 1},
		{[]int{math.MinInt, math.MinInt}, 1},
		{[]int{0, 2, -3}, 2},
		{[]int{4}, 4},
		{[]int{3, 4}, 4},
		{[]int{math.MaxInt, 3}, math.MaxInt},
		{[]int{math.MinInt, math.MaxInt, 1<<32 + 1}, math.MaxInt},
	} {
		var l []api.Check
		for i, status := range x.statuses {
			l = append(l, api.Check{Id: strconv.Itoa(9 - i), Status: status})
		}
		given := slices.Clone(l)
		if got := Worst(l); got != x.want || !slices.Equal(l, given) {
			t.Errorf("Worst of %v: %d, not %d", x.statuses, got, x.want)
		}
	}
}

// All lists of up to five statuses: the greatest one is found wherever it stands.
func TestWorstOfShortLists(t *testing.T) {
	for n := range 6 {
		count := 1
		for range n {
			count *= 5
		}
		for code := range count {
			var l []api.Check
			worst := 1
			for rest := code; len(l) < n; rest /= 5 {
				l = append(l, api.Check{Status: rest % 5})
				worst = max(worst, rest%5)
			}
			if got := Worst(l); got != worst {
				t.Fatalf("Worst(%+v) = %d, not %d", l, got, worst)
			}
		}
	}
}

// P11.2

func TestInstancesByNodeThenId(t *testing.T) {
	c := made(t)
	for _, n := range []string{"b", "ab", "a0", "a-b", "a", "aa", "0"} {
		commit(t, c, node(n, home))
	}
	for _, n := range []string{"ab", "a-b", "a"} {
		commit(t, c, service(n, "z", "web", 80), service(n, "a", "web", 80), service(n, "a-a", "web", 80), service(n, "b", "we", 80), service(n, "c", "web-1", 80))
	}
	v := c.View()
	for name, want := range map[string]string{
		"web":   "a/a a/a-a a/z a-b/a a-b/a-a a-b/z ab/a ab/a-a ab/z",
		"we":    "a/b a-b/b ab/b",
		"web-1": "a/c a-b/c ab/c",
		"w":     "",
		"":      "",
	} {
		if got := told(Instances(v, name, "", false)); got != want {
			t.Errorf("Instances(%q): %q, not %q", name, got, want)
		}
	}
	holdAll(t, v, modelOf(v))
}

func TestInstancesByTag(t *testing.T) {
	v := made(t, node("n", home), service("n", "a", "web", 80), service("n", "b", "web", 80, "x"), service("n", "c", "web", 80, "y", "X"), service("n", "d", "db", 80, "x"), service("n", "e", "web", 80, "xx", "x-x")).View()
	for tag, want := range map[string]string{
		"":    "n/a n/b n/c n/e",
		"x":   "n/b n/c",
		"y":   "n/c",
		"xx":  "n/e",
		"x-x": "n/e",
		"X":   "",
		"x,y": "",
		"-":   "",
	} {
		if got := told(Instances(v, "web", tag, false)); got != want {
			t.Errorf("tag %q: %q, not %q", tag, got, want)
		}
	}
	if l := Instances(v, "", "x", false); len(l) != 0 {
		t.Errorf("without a name, by a tag: %+v", l)
	}
	holdAll(t, v, modelOf(v))
}

// The checks of an instance are its node's own and its own, not those of others on the node, nor of its likes on other nodes.
func TestChecksOfAnInstance(t *testing.T) {
	v := made(t, node("n", home), node("m", other),
		service("n", "s", "web", 80), service("n", "t", "web", 80), service("n", "s-t", "db", 80), service("m", "s", "web", 80),
		check("n", "g", "", 1), check("n", "c", "s", 1), check("n", "e", "t", 2), check("n", "a", "", 1), check("n", "h", "s", 1),
		check("n", "d", "s-t", 3), check("n", "b", "s-t", 1), check("m", "z", "", 1), check("m", "c", "s", 3)).View()
	l := Instances(v, "web", "", false)
	if told(l) != "m/s n/s n/t" {
		t.Fatal(told(l))
	}
	for i, want := range []struct {
		checks string
		status int
	}{{"c z", 3}, {"a c g h", 1}, {"a e g", 2}} {
		if toldChecks(l[i].Checks) != want.checks || l[i].Status != want.status {
			t.Errorf("%+v: checks %q, status %d", want, toldChecks(l[i].Checks), l[i].Status)
		}
		for _, c := range l[i].Checks {
			if c.Node != l[i].Node.Name || c.Node != l[i].Service.Node {
				t.Errorf("%+v on %+v", c, l[i].Node)
			}
		}
	}
	if l := Instances(v, "db", "", false); len(l) != 1 || toldChecks(l[0].Checks) != "a b d g" || l[0].Status != 3 {
		t.Errorf("%+v", l)
	}
	holdAll(t, v, modelOf(v))
}

// The node's own checks speak for every instance on it.
func TestStatuses(t *testing.T) {
	for own := range 4 {
		for its := range 4 {
			c := made(t, node("n", home), service("n", "s", "web", 80), service("n", "q", "db", 80), check("n", "c", "q", 3))
			if own > 0 {
				commit(t, c, check("n", "b", "", own))
			}
			if its > 0 {
				commit(t, c, check("n", "d", "s", its))
			}
			v, want := c.View(), max(1, own, its)
			l := Instances(v, "web", "", false)
			if len(l) != 1 || l[0].Status != want {
				t.Errorf("%d, %d: %+v", own, its, l)
			}
			if passing := Instances(v, "web", "", true); len(passing) != 0 != (want == 1) {
				t.Errorf("%d, %d: %+v", own, its, passing)
			}
			if l := Endpoints(v, "web", ""); len(l) != 0 != (want == 1) {
				t.Errorf("%d, %d: %+v", own, its, l)
			}
			holdAll(t, v, modelOf(v))
		}
	}
}

func TestPassingInstancesAlone(t *testing.T) {
	c := made(t)
	for i, n := range []string{"a", "b", "c", "d", "e"} {
		commit(t, c, node(n, "10.0.0."+strconv.Itoa(i)), service(n, "s", "web", 80, "x"), service(n, "t", "web", 80))
	}
	commit(t, c, check("a", "c", "", 2), check("b", "c", "s", 3), check("c", "c", "t", 2), check("d", "c", "", 1), check("d", "d", "s", 1))
	v := c.View()
	if got := told(Instances(v, "web", "", true)); got != "b/t c/s d/s d/t e/s e/t" {
		t.Error(got)
	}
	if got := told(Instances(v, "web", "x", true)); got != "c/s d/s e/s" {
		t.Error(got)
	}
	holdAll(t, v, modelOf(v))
}

// Records are answered whole.
func TestInstancesWhole(t *testing.T) {
	long := strings.Repeat("N", 63)
	low := strings.ToLower(long)
	tags := strings.Split("P O N M L K J I H G F E D C B A", " ")
	note := strings.Repeat("~", 200)
	ill := api.Op{Kind: api.OpCheck, Check: api.Check{Node: long, Id: long, Service: long, Status: 3, Note: note}}
	v := made(t, node(long, "255.255.255.254"), service(long, long, long, 65535, tags...), ill, node(long, "255.255.255.255")).View()
	want := []api.Instance{{
		Node:    api.Node{Name: low, Addr: "255.255.255.255", Made: 2, Changed: 5},
		Service: api.Service{Node: low, Id: low, Name: low, Port: 65535, Tags: strings.Split("a b c d e f g h i j k l m n o p", " "), Made: 3, Changed: 3},
		Checks:  []api.Check{{Node: low, Id: low, Service: low, Status: 3, Note: note, Made: 4, Changed: 4}},
		Status:  3,
	}}
	if got := Instances(v, low, "p", false); !sameInstances(got, want) {
		t.Errorf("%+v", got)
	}
	if got := Instances(v, long, "", false); len(got) != 0 {
		t.Errorf("found by great letters: %+v", got)
	}
}

func TestOddNames(t *testing.T) {
	v := made(t, node("a", home), service("a", "s", "web", 80, "web"), check("a", "c", "", 1)).View()
	for _, name := range oddNames {
		if l := Instances(v, name, "", false); len(l) != 0 {
			t.Errorf("Instances(%q): %+v", name, l)
		}
		if l := Instances(v, "web", name, false); len(l) != 0 {
			t.Errorf("by the tag %q: %+v", name, l)
		}
		if l := Endpoints(v, name, ""); len(l) != 0 {
			t.Errorf("Endpoints(%q): %+v", name, l)
		}
		if l := Endpoints(v, "web", name); len(l) != 0 {
			t.Errorf("endpoints by the tag %q: %+v", name, l)
		}
	}
	if l := Endpoints(v, "", ""); len(l) != 0 {
		t.Errorf("endpoints without a name: %+v", l)
	}
}

func TestEmptyCatalog(t *testing.T) {
	v := made(t).View()
	if len(Instances(v, "web", "", false))+len(Instances(v, "", "", true))+len(Tallies(v))+len(Endpoints(v, "web", "")) != 0 {
		t.Error("something is there")
	}
	holdAll(t, v, modelOf(v))
	// A node and its checks alone are no instance.
	v = made(t, node("n", home), check("n", "c", "", 1)).View()
	if len(Instances(v, "n", "", false))+len(Tallies(v))+len(Endpoints(v, "n", "")) != 0 {
		t.Error("a node counts as an instance")
	}
	holdAll(t, v, modelOf(v))
}

// P11.3

func TestTallies(t *testing.T) {
	c := made(t)
	for _, n := range []string{"a", "b", "c"} {
		commit(t, c, node(n, home), service(n, "s1", "web", 80), service(n, "s2", "web", 80), service(n, "s3", "db", 80), service(n, "s4", "web-a", 80), service(n, "s5", "webs", 80))
	}
	commit(t, c, service("b", "s6", "0", 80), service("b", "s7", "we", 80))
	commit(t, c, check("a", "c1", "", 2), check("a", "c2", "s1", 3), check("b", "c1", "s1", 2), check("c", "c1", "s3", 3), check("c", "c2", "s3", 1), check("c", "c3", "", 1))
	want := []api.Tally{
		{Name: "0", All: 1, Passing: 1},
		{Name: "db", All: 3, Passing: 1, Warning: 1, Critical: 1},
		{Name: "we", All: 1, Passing: 1},
		{Name: "web", All: 6, Passing: 3, Warning: 2, Critical: 1},
		{Name: "web-a", All: 3, Passing: 2, Warning: 1},
		{Name: "webs", All: 3, Passing: 2, Warning: 1},
	}
	v := c.View()
	for range 20 {
		if got := Tallies(v); !slices.Equal(got, want) {
			t.Fatalf("%+v", got)
		}
	}
	// A name that no service has any more is gone.
	commit(t, c, dropService("b", "s6"), service("b", "s7", "web", 80))
	want[3].All, want[3].Passing = 7, 4
	if got := Tallies(c.View()); !slices.Equal(got, slices.Concat(want[1:2], want[3:])) {
		t.Errorf("%+v", got)
	}
}

// P11.4

func TestEndpointsByAddrThenPort(t *testing.T) {
	c := made(t)
	for i, addr := range []string{"10.0.0.10", "10.0.0.9", "9.255.255.255", "255.0.0.0", "0.0.0.0", "128.1.0.0", "127.1.0.0", "10.0.1.0", "10.1.0.0"} {
		n := "n" + strconv.Itoa(i)
		commit(t, c, node(n, addr), service(n, "a", "web", 10000), service(n, "b", "web", 9), service(n, "c", "web", 65535), service(n, "d", "web", 80))
	}
	var got []string
	for _, e := range Endpoints(c.View(), "web", "") {
		if e.Port == 9 {
			got = append(got, e.Node)
		}
	}
	if want := "n4 n2 n1 n0 n7 n8 n6 n5 n3"; strings.Join(got, " ") != want {
		t.Errorf("%v, not %s", got, want)
	}
	var ports []int
	for _, e := range Endpoints(c.View(), "web", "") {
		if e.Addr == [4]byte{10, 0, 0, 9} {
			ports = append(ports, e.Port)
		}
	}
	if !slices.Equal(ports, []int{9, 80, 10000, 65535}) {
		t.Errorf("%v", ports)
	}
	holdAll(t, c.View(), modelOf(c.View()))
}

// Of endpoints that are alike the one on the first node is told, whichever was made first.
func TestEndpointsOnce(t *testing.T) {
	c := made(t, node("z", home), node("b", home), node("a", home), node("c", other))
	for _, n := range []string{"z", "b", "c", "a"} {
		commit(t, c, service(n, "s", "web", 80, n), service(n, "t", "web", 80), service(n, "u", "web", 81), service(n, "v", "db", 80))
	}
	at := func(last byte, port int, node string) api.Endpoint {
		return api.Endpoint{Addr: [4]byte{10, 0, 0, last}, Port: port, Node: node}
	}
	want := func(name, tag string, l ...api.Endpoint) {
		t.Helper()
		if got := Endpoints(c.View(), name, tag); !slices.Equal(got, l) {
			t.Errorf("Endpoints(%q, %q): %+v, not %+v", name, tag, got, l)
		}
	}
	want("web", "", at(1, 80, "a"), at(1, 81, "a"), at(2, 80, "c"), at(2, 81, "c"))
	want("web", "z", at(1, 80, "z"))
	want("db", "", at(1, 80, "a"), at(2, 80, "c"))
	want("we", "")
	// One that isn't passing stands ahead of nobody.
	commit(t, c, check("a", "c", "s", 2), check("a", "d", "t", 3))
	want("web", "", at(1, 80, "b"), at(1, 81, "a"), at(2, 80, "c"), at(2, 81, "c"))
	commit(t, c, check("b", "c", "", 2))
	want("web", "", at(1, 80, "z"), at(1, 81, "a"), at(2, 80, "c"), at(2, 81, "c"))
	commit(t, c, check("c", "c", "", 3))
	want("web", "", at(1, 80, "z"), at(1, 81, "a"))
	want("db", "", at(1, 80, "a"))
}
