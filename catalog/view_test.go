package catalog

import (
	"slices"
	"strings"
	"testing"

	"muster/api"
)

// P10.4

func TestOrders(t *testing.T) {
	r := newTrial(t, 1)
	for _, n := range []string{"b", "ab", "a0", "a-b", "a", "aa", "0"} {
		r.apply(node(n, home))
	}
	for _, n := range []string{"ab", "a-b", "a"} {
		r.apply(service(n, "z", "web", 80), service(n, "a", "web", 80), service(n, "a-a", "web", 80), service(n, "b", "we", 80), service(n, "c", "web-1", 80))
		r.apply(check(n, "z", "z", 3, ""), check(n, "a", "z", 3, ""), check(n, "a-a", "", 3, ""), check(n, "aa", "", 3, ""), check(n, "b", "a", 2, ""))
	}
	v := r.catalog.View()
	var names []string
	for _, n := range v.Nodes() {
		names = append(names, n.Name)
	}
	if !slices.Equal(names, []string{"0", "a", "a-b", "a0", "aa", "ab", "b"}) {
		t.Errorf("Nodes: %q", names)
	}
	for _, x := range []struct{ what, got, want string }{
		{"all services", serviceIds(v.Services("")), "a/a a/a-a a/b a/c a/z a-b/a a-b/a-a a-b/b a-b/c a-b/z ab/a ab/a-a ab/b ab/c ab/z"},
		{"Services", serviceIds(v.Services("web")), "a/a a/a-a a/z a-b/a a-b/a-a a-b/z ab/a ab/a-a ab/z"},
		{"Services", serviceIds(v.Services("we")), "a/b a-b/b ab/b"},
		{"Services", serviceIds(v.Services("w")), ""},
		{"OfNode", serviceIds(v.OfNode("a")), "a/a a/a-a a/b a/c a/z"},
		{"OfNode", serviceIds(v.OfNode("b")), ""},
		{"Checks", ids(v.Checks("a")), "a/a a/a-a a/aa a/b a/z"},
		{"ChecksOf", ids(v.ChecksOf("a", "z")), "a/a a/z"},
		{"ChecksOf", ids(v.ChecksOf("a", "a")), "a/b"},
		{"ChecksOf", ids(v.ChecksOf("a", "b")), ""},
		{"the node's own", ids(v.ChecksOf("a", "")), "a/a-a a/aa"},
		{"ByStatus", ids(v.ByStatus(3)), "a/a a/a-a a/aa a/z a-b/a a-b/a-a a-b/aa a-b/z ab/a ab/a-a ab/aa ab/z"},
		{"ByStatus", ids(v.ByStatus(2)), "a/b a-b/b ab/b"},
		{"ByStatus", ids(v.ByStatus(1)), ""},
	} {
		if x.got != x.want {
			t.Errorf("%s: %q, not %q", x.what, x.got, x.want)
		}
	}
}

// Records are answered whole, in normal form.
func TestRecordsWhole(t *testing.T) {
	r := newTrial(t, 1)
	long := strings.Repeat("N", 63)
	note := strings.Repeat("~", 200)
	tags := strings.Split("P O N M L K J I H G F E D C B A", " ")
	r.changes(2, node(long, "255.255.255.255"), service(long, long, long, 65535, tags...), check(long, long, long, api.Critical, note))
	low := strings.ToLower(long)
	v := r.catalog.View()
	if n, ok := v.Node(low); !ok || n != (api.Node{Name: low, Addr: "255.255.255.255", Made: 2, Changed: 2}) {
		t.Errorf("%+v", n)
	}
	want := []api.Service{{Node: low, Id: low, Name: low, Port: 65535, Tags: strings.Split("a b c d e f g h i j k l m n o p", " "), Made: 2, Changed: 2}}
	for _, l := range [][]api.Service{v.Services(""), v.Services(low), v.OfNode(low)} {
		if !sameList(l, want) {
			t.Errorf("%+v", l)
		}
	}
	for _, l := range [][]api.Check{v.Checks(low), v.ChecksOf(low, low), v.ByStatus(api.Critical)} {
		if !sameList(l, []api.Check{{Node: low, Id: low, Service: low, Status: api.Critical, Note: note, Made: 2, Changed: 2}}) {
			t.Errorf("%+v", l)
		}
	}
	// Names are sought as they stand.
	if n, ok := v.Node(long); ok || n != (api.Node{}) {
		t.Errorf("%+v", n)
	}
	if len(v.Services(long))+len(v.OfNode(long))+len(v.Checks(long))+len(v.ChecksOf(long, low))+len(v.ChecksOf(low, long)) != 0 {
		t.Error("found by great letters")
	}
}

// What no record is named by is answered with nothing.
func TestOddNames(t *testing.T) {
	r := filled(t)
	r.changes(5, node("0", home))
	v := r.catalog.View()
	for _, name := range oddNames {
		if n, ok := v.Node(name); ok || n != (api.Node{}) {
			t.Errorf("Node(%q) = %+v, %v", name, n, ok)
		}
		if len(v.OfNode(name))+len(v.Checks(name)) != 0 {
			t.Errorf("there is something on %q", name)
		}
		if name != "" && len(v.Services(name)) != 0 {
			t.Errorf("Services(%q) = %+v", name, v.Services(name))
		}
		if name != "" && len(v.ChecksOf("a", name)) != 0 {
			t.Errorf("ChecksOf a, %q", name)
		}
		for _, service := range append(oddNames, "s") {
			if len(v.ChecksOf(name, service)) != 0 {
				t.Errorf("ChecksOf %q, %q", name, service)
			}
		}
	}
	for _, status := range oddStatuses {
		if l := v.ByStatus(status); len(l) != 0 {
			t.Errorf("ByStatus(%d) = %+v", status, l)
		}
	}
}

func TestViewsStay(t *testing.T) {
	r := filled(t)
	before := r.now
	v := r.catalog.View()
	r.apply(node("a", other), dropService("a", "s"), dropCheck("a", "c"), service("a", "s1", "web", 8080, "t"), check("a", "e", "", 3, "ill"))
	r.holdView(v, before)
	r.apply(dropNode("a"), dropNode("a-b"), dropNode("ab"), node("z", home))
	r.holdView(v, before)
	r.holdHeld()
}

// P10.5

func TestOddTables(t *testing.T) {
	r := filled(t)
	for _, table := range oddTables {
		if m := r.catalog.View().Mark(table); m != 0 {
			t.Errorf("Mark(%q) = %d", table, m)
		}
		if w := r.catalog.View().Heard(table); w != nil {
			t.Errorf("Heard(%q) = %v", table, w)
		}
	}
}

// The marks of a view stay, and tables have marks of their own.
func TestMarksOfViewsStay(t *testing.T) {
	r := newTrial(t, 7)
	v := r.catalog.View()
	r.changes(8, node("n", home))
	u := r.catalog.View()
	r.changes(9, service("n", "s", "web", 80))
	r.changes(10, node("n", other))
	if v.Mark("nodes") != 7 || u.Mark("nodes") != 8 || u.Mark("services") != 7 {
		t.Errorf("%d, %d, %d", v.Mark("nodes"), u.Mark("nodes"), u.Mark("services"))
	}
	r.marks(10, 9, 7)
}

func TestHeardByWhichCommits(t *testing.T) {
	r := newTrial(t, 1)
	r.apply(node("n", home), service("n", "s", "web", 80), check("n", "c", "s", 1, ""))
	for _, x := range []struct {
		op                     api.Op
		nodes, services, check bool
	}{
		{node("n", home), false, false, false},
		{node("n", other), true, false, false},
		{service("n", "t", "web", 80), false, true, false},
		{check("n", "d", "", 1, ""), false, false, true},
		{check("n", "d", "q", 1, ""), false, false, false},
		{cas(dropNode("n"), 1), false, false, false},
		{dropService("n", "t"), false, true, false},
		{dropService("n", "s"), false, true, true},
		{dropCheck("n", "d"), false, false, true},
		{dropNode("n"), true, false, false},
		{dropNode("n"), false, false, false},
	} {
		v := r.catalog.View()
		nodes, services, checks := v.Heard("nodes"), v.Heard("services"), v.Heard("checks")
		if nodes.Fired() || services.Fired() || checks.Fired() {
			t.Fatalf("fired ahead of %+v", x.op)
		}
		r.hold()
		r.apply(x.op)
		if nodes.Fired() != x.nodes || services.Fired() != x.services || checks.Fired() != x.check {
			t.Errorf("%+v: %v, %v, %v", x.op, nodes.Fired(), services.Fired(), checks.Fired())
		}
		// Asked for behind the commit, it tells of it all the same; a new view's doesn't.
		if v.Heard("nodes").Fired() != x.nodes || v.Heard("services").Fired() != x.services || v.Heard("checks").Fired() != x.check {
			t.Errorf("%+v: asked for later", x.op)
		}
		if now := r.catalog.View(); now.Heard("nodes").Fired() || now.Heard("services").Fired() || now.Heard("checks").Fired() {
			t.Errorf("%+v: a new view has heard", x.op)
		}
	}
	r.holdHeld()
}

// A watch isn't fired by commits that leave its table alone, however many there are.
func TestHeardLater(t *testing.T) {
	r := newTrial(t, 1)
	r.apply(node("n", home))
	v := r.catalog.View()
	heard := v.Heard("checks")
	for i := range 50 {
		r.apply(node("n", []string{home, other}[1-i%2]), service("n", "s", "web", 1+i))
		if heard.Fired() || v.Heard("checks").Fired() {
			t.Fatal("fired by another table's commit")
		}
	}
	r.apply(check("n", "c", "", 1, ""))
	if !heard.Fired() {
		t.Error("not fired")
	}
}

// What is handed out is new memory.
func TestAnswersAreNew(t *testing.T) {
	r := newTrial(t, 1)
	r.apply(node("n", home), service("n", "s", "web", 80, "x", "y"), service("n", "t", "web", 80, "x", "y"), check("n", "c", "s", 1, "well"), check("n", "d", "", 1, ""))
	v := r.catalog.View()
	asked := []func() []api.Service{
		func() []api.Service { return v.Services("") },
		func() []api.Service { return v.Services("web") },
		func() []api.Service { return v.OfNode("n") },
	}
	for _, ask := range asked {
		l := ask()
		first, second := l[0].Tags, l[1].Tags
		for i := range first[:cap(first)] {
			first[:cap(first)][i] = "q"
		}
		if !slices.Equal(second, []string{"x", "y"}) {
			t.Error("two services of one answer share their tags")
		}
		scrawl(l, api.Service{Node: "q"})
		r.holdNow()
	}
	scrawl(v.Nodes(), api.Node{Name: "q"})
	scrawl(v.Checks("n"), api.Check{Node: "q"})
	scrawl(v.ChecksOf("n", ""), api.Check{Node: "q"})
	scrawl(v.ChecksOf("n", "s"), api.Check{Node: "q"})
	scrawl(v.ByStatus(1), api.Check{Node: "q"})
	r.holdView(v, r.now)
	r.holdNow()
}

// scrawl: writes over a list, spare room too.
func scrawl[R any](l []R, r R) {
	l = l[:cap(l)]
	for i := range l {
		l[i] = r
	}
}

// What is handed in isn't kept, and isn't changed, spare room included.
func TestListsAreNotKept(t *testing.T) {
	r := newTrial(t, 1)
	tags := append(make([]string, 0, 8), "y", "X", "x")
	spare := tags[:8]
	spare[3], spare[7] = "spare", "room"
	ops := append(make([]api.Op, 0, 8), node("N", home), service("n", "s", "web", 80, tags...))
	ops[:3][2] = dropNode("n")
	r.changes(2, ops...)
	if !slices.Equal(spare, []string{"y", "X", "x", "spare", "", "", "", "room"}) || !sameOp(ops[:3][2], dropNode("n")) {
		t.Errorf("%q, %+v", spare, ops[:3][2])
	}
	scrawl(tags, "q")
	scrawl(ops, api.Op{})
	r.holdNow()
	// Nor what is refused, or changes nothing.
	again := append(make([]string, 0, 4), "X", "y")
	r.changesNothing(service("n", "s", "web", 80, again...))
	scrawl(again, "q")
	r.holdNow()
}
