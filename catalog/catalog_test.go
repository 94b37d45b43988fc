package catalog

import (
	"math"
	"slices"
	"strconv"
	"strings"
	"testing"

	"muster/api"
)

const (
	home  = "10.0.0.1"
	other = "10.0.0.2"
)

func TestNumbers(t *testing.T) {
	for i, e := range []api.Errno{api.ErrNoNode, api.ErrNoService, api.ErrStale, api.ErrOps, api.ErrIndexExhausted} {
		if e != api.Errno(100+i) {
			t.Errorf("error %d is %d", 100+i, e)
		}
	}
	if api.MaxOps != 64 {
		t.Errorf("MaxOps %d", api.MaxOps)
	}
}

func TestChapterExamples(t *testing.T) {
	r := newTrial(t, 0)
	if r.catalog.Index() != 1 {
		t.Errorf("index %d", r.catalog.Index())
	}
	r.changes(2, node("N1", "10.0.0.1"))
	r.changesNothing(node("N1", "10.0.0.1"))
	r.refuses(api.ErrNoNode, 0, check("n2", "c", "", api.Passing, ""))
	if r.catalog.Index() != 2 {
		t.Errorf("index %d", r.catalog.Index())
	}
	r.changes(3, dropNode("n1"))
	r.marks(3, 1, 1)
}

// P10.1

func TestNew(t *testing.T) {
	for first, want := range map[uint64]uint64{0: 1, 1: 1, 2: 2, 77: 77, 1 << 63: 1 << 63, math.MaxUint64: math.MaxUint64} {
		r := newTrial(t, first)
		v := r.catalog.View()
		if r.catalog.Index() != want || v.Index() != want {
			t.Errorf("New(%d): %d, %d, not %d", first, r.catalog.Index(), v.Index(), want)
		}
		r.marks(want, want, want)
		if len(v.Nodes())+len(v.Services(""))+len(v.ByStatus(api.Passing)) != 0 {
			t.Errorf("New(%d) has records", first)
		}
		for _, table := range marked {
			if w := v.Heard(table); w == nil || w.Fired() {
				t.Errorf("New(%d): %q has been heard", first, table)
			}
		}
	}
}

func TestCatalogsShareNothing(t *testing.T) {
	a, b := newTrial(t, 5), newTrial(t, 5)
	b.hold()
	a.changes(6, node("n", home), service("n", "s", "web", 80), check("n", "c", "", api.Passing, ""))
	b.holdNow()
	b.holdHeld()
	if len(b.catalog.View().Nodes()) != 0 {
		t.Error("a node of another catalog")
	}
}

func TestViewsIndexStays(t *testing.T) {
	r := newTrial(t, 10)
	before := r.catalog.View()
	r.changes(11, node("n", home))
	between := r.catalog.View()
	r.changes(12, node("m", home))
	if before.Index() != 10 || between.Index() != 11 || r.catalog.Index() != 12 {
		t.Errorf("%d, %d, %d", before.Index(), between.Index(), r.catalog.Index())
	}
}

// P10.2

func TestListsOfAllLengths(t *testing.T) {
	for n := range 70 {
		good, idle, wrong := newTrial(t, 1), newTrial(t, 1), newTrial(t, 1)
		var nodes, drops, none []api.Op
		for i := range n {
			nodes = append(nodes, node("n"+strconv.Itoa(i), home))
			drops = append(drops, dropNode("n"))
			none = append(none, api.Op{Kind: 99})
		}
		if n == 0 || n > 64 {
			good.refuses(api.ErrOps, 0, nodes...)
			idle.refuses(api.ErrOps, 0, drops...)
			wrong.refuses(api.ErrOps, 0, none...)
			continue
		}
		good.changes(2, nodes...)
		idle.changesNothing(drops...)
		wrong.refuses(api.ErrOp, 0, none...)
	}
	r := newTrial(t, math.MaxUint64)
	r.refuses(api.ErrOps, 0)
	if got := r.catalog.Apply([]api.Op{}); got != (api.Outcome{Index: math.MaxUint64, Err: api.ErrOps}) {
		t.Errorf("an empty list: %+v", got)
	}
}

func TestAllOrNothing(t *testing.T) {
	r := newTrial(t, 1)
	r.changes(2, node("n", home), service("n", "s", "web", 80, "x"), check("n", "c", "s", api.Passing, "well"))
	r.hold()
	good := []api.Op{
		node("n", other), service("n", "s", "db", 81), check("n", "c", "", api.Critical, "ill"), node("m", home), service("m", "s", "web", 80),
		dropCheck("n", "c"), dropService("n", "s"), dropNode("n"),
	}
	for _, wrong := range []struct {
		op api.Op
		e  api.Errno
	}{
		{api.Op{}, api.ErrOp},
		{node("-", home), api.ErrLabel},
		{node("q", "10.0.0"), api.ErrAddr},
		{service("m", "t", "web", 0), api.ErrPort},
		{service("m", "t", "web", 80, "_"), api.ErrTags},
		{check("m", "c", "", 0, ""), api.ErrStatus},
		{check("m", "c", "", 1, "\n"), api.ErrNote},
		{service("q", "s", "web", 80), api.ErrNoNode},
		{check("m", "c", "q", 1, ""), api.ErrNoService},
		{cas(node("m", home), 17), api.ErrStale},
	} {
		for at := range len(good) + 1 {
			if at < 5 && (wrong.op.Service.Node == "m" || wrong.op.Check.Node == "m") {
				continue
			}
			r.refuses(wrong.e, at, slices.Insert(slices.Clone(good), at, wrong.op)...)
			// The first one counts, whatever is wrong behind it.
			r.refuses(wrong.e, at, slices.Insert(slices.Clone(good), at, wrong.op, api.Op{Kind: -1}, api.Op{})...)
		}
	}
	r.holdHeld()
	r.marks(2, 2, 2)
	r.changes(3, good...)
	r.marks(3, 3, 3)
}

// Each operation sees what those ahead of it in the list have done.
func TestOperationsSeeThoseAhead(t *testing.T) {
	r := newTrial(t, 1)
	r.refuses(api.ErrNoNode, 0, service("n", "s", "web", 80), node("n", home))
	r.refuses(api.ErrNoService, 1, node("n", home), check("n", "c", "s", 1, ""), service("n", "s", "web", 80))
	r.changes(2, node("n", home), service("n", "s", "web", 80), check("n", "c", "s", 1, ""))
	r.refuses(api.ErrNoNode, 1, dropNode("n"), service("n", "t", "web", 80))
	r.refuses(api.ErrNoNode, 1, dropNode("n"), check("n", "d", "", 1, ""))
	r.refuses(api.ErrNoService, 1, dropService("n", "s"), check("n", "c", "s", 1, ""))
	r.refuses(api.ErrNoService, 2, dropNode("n"), node("n", home), check("n", "c", "s", 1, ""))
	r.marks(2, 2, 2)
}

func TestNothingChanged(t *testing.T) {
	r := newTrial(t, 1)
	all := []api.Op{node("n", home), service("n", "s", "web", 80, "x", "y"), check("n", "c", "s", api.Warning, "so so"), check("n", "d", "", api.Passing, "")}
	r.changes(2, all...)
	r.hold()
	r.changesNothing(all...)
	r.changesNothing(node("N", home), service("N", "S", "WEB", 80, "Y", "x", "X"), check("N", "C", "S", api.Warning, "so so"))
	r.changesNothing(dropNode("m"), dropService("n", "t"), dropService("m", "s"), dropCheck("n", "e"), dropCheck("m", "c"))
	r.changesNothing(dropService("n", "c"), dropCheck("n", "s"), dropNode("s"))
	stamped := node("n", home)
	stamped.Node.Made, stamped.Node.Changed, stamped.Want = 70, 71, 72
	r.changesNothing(stamped)
	r.holdHeld()
	r.marks(2, 2, 2)
}

// A record that was made and taken out again in one list has been changed all the same.
func TestMadeAndTakenOut(t *testing.T) {
	r := newTrial(t, 1)
	r.hold()
	r.changes(2, node("n", home), dropNode("n"))
	r.marks(2, 1, 1)
	r.changes(3, node("n", home), service("n", "s", "web", 80), dropService("n", "s"))
	r.marks(3, 3, 1)
	r.hold()
	r.changes(4, check("n", "c", "", 1, ""), dropCheck("n", "c"))
	r.marks(3, 3, 4)
	r.changes(5, service("n", "s", "web", 80), check("n", "c", "s", 1, ""), dropNode("n"))
	r.marks(5, 5, 5)
	r.holdHeld()
}

// A record that was changed and changed back in one list bears the new index.
func TestThereAndBack(t *testing.T) {
	r := newTrial(t, 1)
	r.changes(2, node("n", home))
	r.changes(3, node("n", other), node("n", home))
	if n, _ := r.catalog.View().Node("n"); n != (api.Node{Name: "n", Addr: home, Made: 2, Changed: 3}) {
		t.Errorf("%+v", n)
	}
	r.changes(4, dropNode("n"), node("n", home))
	if n, _ := r.catalog.View().Node("n"); n != (api.Node{Name: "n", Addr: home, Made: 4, Changed: 4}) {
		t.Errorf("%+v", n)
	}
}

func TestMarksOfEachKind(t *testing.T) {
	r := newTrial(t, 1)
	r.changes(2, node("n", home))
	r.marks(2, 1, 1)
	r.changes(3, service("n", "s", "web", 80))
	r.marks(2, 3, 1)
	r.changes(4, check("n", "c", "s", 1, ""))
	r.marks(2, 3, 4)
	r.changes(5, node("n", other))
	r.marks(5, 3, 4)
	r.changes(6, service("n", "s", "web", 81))
	r.marks(5, 6, 4)
	r.changes(7, check("n", "c", "s", 2, ""))
	r.marks(5, 6, 7)
	r.changes(8, dropCheck("n", "c"))
	r.marks(5, 6, 8)
	r.changes(9, dropService("n", "s"))
	r.marks(5, 9, 8)
	r.changes(10, dropNode("n"))
	r.marks(10, 9, 8)
	r.changes(11, node("n", home), node("n", home), service("n", "s", "web", 80))
	r.marks(11, 11, 8)
}

func TestIndexExhausted(t *testing.T) {
	r := newTrial(t, math.MaxUint64-2)
	r.changes(math.MaxUint64-1, node("n", home))
	r.changes(math.MaxUint64, service("n", "s", "web", 80), check("n", "c", "s", 1, ""))
	r.hold()
	for _, o := range []api.Op{
		node("m", home), node("n", other), service("n", "s", "web", 81), check("n", "c", "", 1, ""), dropNode("n"), dropService("n", "s"), dropCheck("n", "c"),
	} {
		r.refuses(api.ErrIndexExhausted, 0, o)
		r.refuses(api.ErrIndexExhausted, 0, node("n", home), o)
		r.refuses(api.ErrIndexExhausted, 0, o, dropNode("q"))
		// What is wrong in the list is told instead.
		r.refuses(api.ErrOp, 1, o, api.Op{})
		r.refuses(api.ErrNoNode, 2, o, dropNode("q"), service("q", "s", "web", 80))
	}
	r.refuses(api.ErrIndexExhausted, 0, node("m", home), dropNode("m"))
	r.changesNothing(node("n", home), service("n", "s", "web", 80), dropNode("m"))
	r.refuses(api.ErrOps, 0)
	r.holdHeld()
	r.marks(math.MaxUint64-1, math.MaxUint64, math.MaxUint64)
}

// Where there will be no commit, the new index counts as 0 for what is compared later in the list.
func TestNewIndexCountsAsZero(t *testing.T) {
	r := newTrial(t, math.MaxUint64-1)
	r.changes(math.MaxUint64, node("n", home), service("n", "s", "web", 80), check("n", "c", "s", 1, ""))
	for _, x := range []struct{ change, again api.Op }{
		{node("n", other), node("n", home)},
		{node("m", other), node("m", home)},
		{node("m", other), dropNode("m")},
		{service("n", "s", "web", 81), service("n", "s", "web", 82)},
		{service("n", "t", "web", 81), dropService("n", "t")},
		{check("n", "c", "s", 2, ""), check("n", "c", "s", 3, "")},
		{check("n", "d", "", 2, ""), dropCheck("n", "d")},
	} {
		r.refuses(api.ErrIndexExhausted, 0, x.change, cas(x.again, 0))
		r.refuses(api.ErrStale, 1, x.change, cas(x.again, math.MaxUint64))
		r.refuses(api.ErrStale, 1, x.change, cas(x.again, 1))
	}
	r.changesNothing(cas(node("n", home), math.MaxUint64), cas(dropNode("m"), 0))
	r.refuses(api.ErrStale, 0, cas(node("n", home), 0))
}

// P10.3

// Of all errors that an operation has, the one that is asked first is told.
func TestOrderOfErrors(t *testing.T) {
	r := newTrial(t, 1)
	r.changes(2, node("n", home), service("n", "s", "web", 80), check("n", "c", "s", 1, ""))
	for _, x := range []struct {
		op api.Op
		e  api.Errno
	}{
		{api.Op{Kind: 7, Cas: true, Want: 9}, api.ErrOp},
		{cas(node("-", "x"), 9), api.ErrLabel},
		{cas(node("n", "x"), 9), api.ErrAddr},
		{cas(node("n", home), 9), api.ErrStale},
		{cas(service("-", "s", "web", 0, "_"), 9), api.ErrLabel},
		{cas(service("q", "s", "web", 0, "_"), 9), api.ErrPort},
		{cas(service("q", "s", "web", 80, "_"), 9), api.ErrTags},
		{cas(service("q", "s", "web", 80), 9), api.ErrNoNode},
		{cas(service("n", "s", "web", 80), 9), api.ErrStale},
		{cas(check("q", "c", "_", 4, "\n"), 9), api.ErrLabel},
		{cas(check("q", "c", "q", 4, "\n"), 9), api.ErrStatus},
		{cas(check("q", "c", "q", 1, "\n"), 9), api.ErrNote},
		{cas(check("q", "c", "q", 1, ""), 9), api.ErrNoNode},
		{cas(check("n", "c", "q", 1, ""), 9), api.ErrNoService},
		{cas(check("n", "c", "s", 1, ""), 9), api.ErrStale},
		{cas(check("n", "c", "", 1, ""), 9), api.ErrStale},
		{cas(dropNode(""), 9), api.ErrLabel},
		{cas(dropNode("q"), 9), api.ErrStale},
		{cas(dropService("n", ""), 9), api.ErrLabel},
		{cas(dropService("q", "s"), 9), api.ErrStale},
		{cas(dropCheck("", "c"), 9), api.ErrLabel},
		{cas(dropCheck("q", "c"), 9), api.ErrStale},
	} {
		r.refuses(x.e, 0, x.op)
	}
}

// A service of that id on another node is none of the check's.
func TestServiceOfAnotherNode(t *testing.T) {
	r := newTrial(t, 1)
	r.changes(2, node("n", home), node("m", home), service("m", "s", "web", 80))
	r.refuses(api.ErrNoService, 0, check("n", "c", "s", 1, ""))
	r.refuses(api.ErrNoService, 0, check("m", "c", "web", 1, ""))
	r.changes(3, check("n", "c", "", 1, ""), check("M", "c", "S", 1, ""))
}

func TestCas(t *testing.T) {
	for _, x := range []struct {
		name             string
		make, more, drop api.Op
	}{
		{"node", node("x", home), node("x", other), dropNode("x")},
		{"service", service("n", "x", "web", 80), service("n", "x", "web", 80, "t"), dropService("n", "x")},
		{"check", check("n", "x", "", 1, ""), check("n", "x", "", 1, "n"), dropCheck("n", "x")},
	} {
		t.Run(x.name, func(t *testing.T) {
			r := newTrial(t, 1)
			r.changes(2, node("n", home))
			for _, want := range []uint64{1, 2, 3, math.MaxUint64} {
				r.refuses(api.ErrStale, 0, cas(x.make, want))
				r.refuses(api.ErrStale, 0, cas(x.drop, want))
			}
			r.changesNothing(cas(x.drop, 0))
			r.changes(3, cas(x.make, 0))
			for _, want := range []uint64{0, 2, 4, math.MaxUint64} {
				r.refuses(api.ErrStale, 0, cas(x.make, want))
				r.refuses(api.ErrStale, 0, cas(x.more, want))
				r.refuses(api.ErrStale, 0, cas(x.drop, want))
			}
			r.changesNothing(cas(x.make, 3))
			r.changes(4, cas(x.more, 3))
			// Made is another number by now, and isn't asked for.
			r.refuses(api.ErrStale, 0, cas(x.drop, 3))
			r.changes(5, cas(x.drop, 4))
			r.refuses(api.ErrStale, 0, cas(x.drop, 4))
			r.changesNothing(cas(x.drop, 0))
			// In a list: the new index is that of the list's commit.
			r.changes(6, cas(x.make, 0), cas(x.more, 6), cas(x.make, 6), cas(x.make, 6), cas(x.drop, 6), cas(x.drop, 0), cas(x.more, 0))
			r.refuses(api.ErrStale, 1, cas(x.make, 6), cas(x.more, 6))
			r.changes(7, cas(x.make, 6), cas(x.more, 7))
		})
	}
}

// Without Cas, Want means nothing.
func TestWantWithoutCas(t *testing.T) {
	r := newTrial(t, 1)
	for i, o := range []api.Op{node("n", home), service("n", "s", "web", 80), check("n", "c", "", 1, ""), dropCheck("n", "c"), dropService("n", "s"), dropNode("n")} {
		o.Want = 1000
		r.changes(uint64(2+i), o)
	}
}

func TestMadeAndChanged(t *testing.T) {
	r := newTrial(t, 1)
	r.changes(2, node("n", home), service("n", "s", "web", 80, "x"), check("n", "c", "s", 1, ""))
	r.changes(3, node("n", other))
	r.changes(4, service("n", "s", "web", 80))
	r.changes(5, check("n", "c", "", 1, ""))
	v := r.catalog.View()
	if n, ok := v.Node("n"); !ok || n != (api.Node{Name: "n", Addr: other, Made: 2, Changed: 3}) {
		t.Errorf("%+v", n)
	}
	if l := v.OfNode("n"); !sameList(l, []api.Service{{Node: "n", Id: "s", Name: "web", Port: 80, Made: 2, Changed: 4}}) {
		t.Errorf("%+v", l)
	}
	if l := v.Checks("n"); !sameList(l, []api.Check{{Node: "n", Id: "c", Status: 1, Made: 2, Changed: 5}}) {
		t.Errorf("%+v", l)
	}
}

// Each part of a record, if it alone is another, makes the record another.
func TestEachPartCounts(t *testing.T) {
	for _, o := range []api.Op{
		node("n", "10.0.0.3"),
		service("n", "s", "db", 80, "x", "y"), service("n", "s", "web", 81, "x", "y"), service("n", "s", "web", 80, "x"), service("n", "s", "web", 80, "x", "z"), service("n", "s", "web", 80, "x", "y", "z"), service("n", "s", "web", 80),
		check("n", "c", "", 1, "well"), check("n", "c", "t", 1, "well"), check("n", "c", "s", 2, "well"), check("n", "c", "s", 1, "Well"), check("n", "c", "s", 1, ""),
	} {
		r := newTrial(t, 1)
		r.changes(2, node("n", home), service("n", "s", "web", 80, "x", "y"), service("n", "t", "web", 80), check("n", "c", "s", 1, "well"))
		r.hold()
		r.changes(3, o)
		r.changesNothing(o)
		r.holdHeld()
	}
}

// filled: three nodes whose names begin alike, with like services and checks on each.
func filled(t *testing.T) *trial {
	t.Helper()
	r := newTrial(t, 1)
	for i, n := range []string{"a", "a-b", "ab"} {
		r.changes(uint64(2+i), node(n, home),
			service(n, "s", "web", 80), service(n, "s-1", "web", 81), service(n, "s1", "db", 82),
			check(n, "c", "", 1, ""), check(n, "c-1", "s", 2, ""), check(n, "c1", "s", 3, ""), check(n, "d", "s-1", 1, ""), check(n, "e", "s1", 1, ""), check(n, "s", "", 1, ""))
	}
	r.hold()
	return r
}

func ids(l []api.Check) string {
	var words []string
	for _, c := range l {
		words = append(words, c.Node+"/"+c.Id)
	}
	return strings.Join(words, " ")
}

func serviceIds(l []api.Service) string {
	var words []string
	for _, s := range l {
		words = append(words, s.Node+"/"+s.Id)
	}
	return strings.Join(words, " ")
}

func TestCascadeOfService(t *testing.T) {
	r := filled(t)
	r.changes(5, dropService("a", "s"))
	r.marks(4, 5, 5)
	v := r.catalog.View()
	if l := serviceIds(v.Services("")); l != "a/s-1 a/s1 a-b/s a-b/s-1 a-b/s1 ab/s ab/s-1 ab/s1" {
		t.Error(l)
	}
	if l := ids(v.Checks("a")); l != "a/c a/d a/e a/s" {
		t.Error(l)
	}
	if l := ids(v.Checks("ab")); l != "ab/c ab/c-1 ab/c1 ab/d ab/e ab/s" {
		t.Error(l)
	}
	// No check speaks for the node's service now: the mark of checks stays.
	r.changes(6, dropCheck("a", "d"))
	r.changes(7, dropService("a", "s-1"))
	r.marks(4, 7, 6)
	r.holdHeld()
}

func TestCascadeOfNode(t *testing.T) {
	r := filled(t)
	r.changes(5, dropNode("a"))
	r.marks(5, 5, 5)
	v := r.catalog.View()
	if l := serviceIds(v.Services("")); l != "a-b/s a-b/s-1 a-b/s1 ab/s ab/s-1 ab/s1" {
		t.Error(l)
	}
	if len(v.Checks("a")) != 0 || len(v.Checks("a-b")) != 6 || len(v.Checks("ab")) != 6 || len(v.ByStatus(1)) != 8 {
		t.Errorf("%v", v.ByStatus(1))
	}
	if len(v.Nodes()) != 2 {
		t.Errorf("%v", v.Nodes())
	}
	// Made anew, it has nothing of the old one's.
	r.changes(6, node("a", home))
	if v := r.catalog.View(); len(v.OfNode("a"))+len(v.Checks("a")) != 0 {
		t.Error("the old one's are still there")
	}
	r.holdHeld()
}

// With a node go its checks alone, or its services alone, if it has no others: just those marks are raised.
func TestCascadeMarks(t *testing.T) {
	r := newTrial(t, 1)
	r.changes(2, node("n", home), check("n", "c", "", 1, ""), node("m", home), service("m", "s", "web", 80))
	r.changes(3, dropNode("n"))
	r.marks(3, 2, 3)
	r.changes(4, dropNode("m"))
	r.marks(4, 4, 3)
}

// A check goes with the service that it speaks for now, not with the one that it spoke for.
func TestCascadeFollowsTheCheck(t *testing.T) {
	r := newTrial(t, 1)
	r.changes(2, node("n", home), service("n", "s", "web", 80), service("n", "t", "web", 80), check("n", "c", "s", 1, ""), check("n", "d", "s", 1, ""))
	r.changes(3, check("n", "c", "t", 1, ""), check("n", "d", "", 1, ""))
	r.changes(4, dropService("n", "s"))
	r.marks(2, 4, 3)
	r.changes(5, dropService("n", "t"))
	r.marks(2, 5, 5)
	if l := ids(r.catalog.View().Checks("n")); l != "n/d" {
		t.Error(l)
	}
}

func TestCascadeOfMany(t *testing.T) {
	r := newTrial(t, 1)
	r.apply(node("n", home), service("n", "s", "web", 80))
	const many = 500
	for i := range many / 10 {
		var ops []api.Op
		for j := range 10 {
			id := strconv.Itoa(10*i + j)
			ops = append(ops, service("n", id, "web", 80, "x"), check("n", id, "s", 1, ""))
		}
		if o := r.catalog.Apply(ops); !o.Changed {
			t.Fatal(o)
		}
	}
	v := r.catalog.View()
	if len(v.OfNode("n")) != many+1 || len(v.ChecksOf("n", "s")) != many {
		t.Fatalf("%d, %d", len(v.OfNode("n")), len(v.ChecksOf("n", "s")))
	}
	r.catalog.Apply([]api.Op{dropService("n", "s")})
	if now := r.catalog.View(); len(now.OfNode("n")) != many || len(now.Checks("n")) != 0 {
		t.Errorf("%d, %d", len(now.OfNode("n")), len(now.Checks("n")))
	}
	r.catalog.Apply([]api.Op{dropNode("n")})
	if now := r.catalog.View(); len(now.Services(""))+len(now.Nodes()) != 0 {
		t.Errorf("%d", len(now.Services("")))
	}
	if len(v.OfNode("n")) != many+1 || len(v.ChecksOf("n", "s")) != many {
		t.Errorf("%d, %d", len(v.OfNode("n")), len(v.ChecksOf("n", "s")))
	}
}
