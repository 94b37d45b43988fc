package journal

import (
	"bytes"
	"math"
	"math/rand"
	"reflect"
	"slices"
	"strconv"
	"testing"

	"muster/api"
	"muster/catalog"
	"muster/records"
)

// P13.6

// feeds: is the catalog fed so, with the index that it then has, and are the bytes left as they are?
func feeds(t *testing.T, c *catalog.Catalog, b []byte, many int, want api.Errno, index uint64) {
	t.Helper()
	before := bytes.Clone(b)
	if n, err := Feed(c, b); n != many || err != want {
		t.Errorf("Feed = %d, %d, not %d, %d", n, err, many, want)
	}
	if c.Index() != index {
		t.Errorf("index %d, not %d", c.Index(), index)
	}
	if !bytes.Equal(b, before) {
		t.Errorf("Feed has made %v of %v", b, before)
	}
}

func frames(entries ...api.Entry) []byte {
	var b []byte
	for _, e := range entries {
		b = append(b, modelFrame(e)...)
	}
	return b
}

func TestFeed(t *testing.T) {
	c := catalog.New(1)
	feeds(t, c, nil, 0, api.OK, 1)
	feeds(t, c, []byte{}, 0, api.OK, 1)
	feeds(t, c, frames(entry(2, node("a", home), service("a", "i", "w", 80, "x")), entry(3, check("a", "c", "i", 2, "so")), entry(4, dropService("a", "i"))), 3, api.OK, 4)
	if v := c.View(); len(v.Nodes()) != 1 || len(v.Services("")) != 0 || len(v.Checks("a")) != 0 || v.Mark("nodes") != 2 || v.Mark("services") != 4 || v.Mark("checks") != 4 {
		t.Errorf("%+v", stateOf(c))
	}
	feeds(t, c, frames(entry(5, cas(node("a", other), 2))), 1, api.OK, 5)
	if n, ok := c.View().Node("a"); !ok || n != (api.Node{Name: "a", Addr: other, Made: 2, Changed: 5}) {
		t.Errorf("%+v", n)
	}
}

// The entries ahead of the first error are applied, those behind it are not; and the error is told.
func TestFeedEndsAtTheFirstError(t *testing.T) {
	good := frames(entry(2, node("a", home)), entry(3, node("b", home)))
	next := frames(entry(4, node("c", home)))
	spoiled := bytes.Clone(next)
	spoiled[len(spoiled)-1] ^= 1
	long := []byte{77, 0, 2, 0, 1}
	for _, x := range []struct {
		name string
		bad  []byte
		want api.Errno
	}{
		{"cut", next[:len(next)-1], api.ErrShort},
		{"one byte", []byte{77}, api.ErrShort},
		{"no frame", []byte{0}, api.ErrFrame},
		{"too long", append(long, next...), api.ErrFrame},
		{"wrong sum", spoiled, api.ErrFrame},
		{"no entry", framed(nil), api.ErrPayload},
		{"not sound", framed(modelPayload(entry(4, node("C", home)))), api.ErrPayload},
		{"no operations", framed(modelPayload(entry(4))), api.ErrPayload},
		{"not sound, and a gap", framed(modelPayload(entry(9, node("C", home)))), api.ErrPayload},
		{"the same again", frames(entry(3, node("c", home))), api.ErrGap},
		{"one left out", frames(entry(5, node("c", home))), api.ErrGap},
		{"index 0", frames(entry(0, node("c", home))), api.ErrGap},
		{"the greatest index", frames(entry(math.MaxUint64, node("c", home))), api.ErrGap},
		{"a gap, and refused", frames(entry(5, service("z", "i", "w", 1))), api.ErrGap},
		{"changes nothing", frames(entry(4, node("a", home))), api.ErrSplit},
		{"drops nothing", frames(entry(4, dropNode("z"), dropService("a", "i"), dropCheck("a", "c"))), api.ErrSplit},
		{"no node", frames(entry(4, node("c", home), service("z", "i", "w", 1))), api.ErrSplit},
		{"no service", frames(entry(4, node("c", home), check("a", "c", "i", 1, ""))), api.ErrSplit},
		{"stale", frames(entry(4, node("c", home), cas(dropNode("a"), 3))), api.ErrSplit},
	} {
		t.Run(x.name, func(t *testing.T) {
			want := catalog.New(1)
			feeds(t, want, good, 2, api.OK, 3)
			c := catalog.New(1)
			view := c.View()
			feeds(t, c, slices.Concat(good, x.bad), 2, x.want, 3)
			if x.want != api.ErrShort {
				// What comes behind the error isn't looked at.
				c = catalog.New(1)
				feeds(t, c, slices.Concat(good, x.bad, next, good), 2, x.want, 3)
			}
			if got := stateOf(c); !reflect.DeepEqual(got, stateOf(want)) {
				t.Errorf("%+v, not %+v", got, stateOf(want))
			}
			feeds(t, c, x.bad, 0, x.want, 3)
			feeds(t, c, next, 1, api.OK, 4)
			if len(view.Nodes()) != 0 {
				t.Error("an old view has changed")
			}
		})
	}
}

// The first entry is held against the catalog's own index, whatever it was made with.
func TestFeedFirst(t *testing.T) {
	for _, first := range []uint64{0, 1, 2, 1000, math.MaxUint64 - 1} {
		index := max(first, 1)
		feeds(t, catalog.New(first), frames(entry(index+1, node("a", home))), 1, api.OK, index+1)
		for _, wrong := range []uint64{0, index - 1, index, index + 2, index + 257} {
			if wrong != index+1 {
				feeds(t, catalog.New(first), frames(entry(wrong, node("a", home))), 0, api.ErrGap, index)
			}
		}
	}
}

// The greatest index has no next one: no entry is taken there, not even one that would be refused anyway.
func TestFeedAtTheEnd(t *testing.T) {
	for _, o := range []api.Op{node("a", home), dropNode("a"), service("a", "i", "w", 1)} {
		for _, index := range []uint64{0, 1, math.MaxUint64 - 1, math.MaxUint64} {
			feeds(t, catalog.New(math.MaxUint64), frames(entry(index, o)), 0, api.ErrGap, math.MaxUint64)
		}
	}
	c := catalog.New(math.MaxUint64 - 2)
	feeds(t, c, frames(entry(math.MaxUint64-1, node("a", home)), entry(math.MaxUint64, node("b", home)), entry(0, node("c", home))), 2, api.ErrGap, math.MaxUint64)
	feeds(t, catalog.New(math.MaxUint64), nil, 0, api.OK, math.MaxUint64)
}

// A list is taken whole, up to its last operation.
func TestFeedWholeLists(t *testing.T) {
	var ops []api.Op
	for i := range 64 {
		ops = append(ops, node("n"+strconv.Itoa(i), home))
	}
	c := catalog.New(1)
	feeds(t, c, frames(entry(2, ops...)), 1, api.OK, 2)
	if len(c.View().Nodes()) != 64 {
		t.Error(len(c.View().Nodes()))
	}
	// All but the last operation change nothing.
	ops[63] = dropNode("n0")
	feeds(t, c, frames(entry(3, ops...)), 1, api.OK, 3)
}

// The bytes may be written over behind the call.
func TestFeedKeepsNothing(t *testing.T) {
	c := catalog.New(1)
	b := frames(entry(2, node("a", home), service("a", "i", "w", 80, "x", "y")), entry(3, check("a", "c", "", 1, "well")))
	feeds(t, c, b, 2, api.OK, 3)
	want := stateOf(c)
	scribbleBytes(b)
	if got := stateOf(c); !reflect.DeepEqual(got, want) || got.services[0].Tags[0] != "x" || got.checks[1][0].Note != "well" {
		t.Errorf("%+v", got)
	}
}

// P13.7

// historyOp: one over few names, so that records meet; not in normal form, and wrong now and then.
func historyOp(rnd *rand.Rand, c *catalog.Catalog) api.Op {
	where := func() string { return pick(rnd, "a", "A", "b", "c-1") }
	id := func() string { return pick(rnd, "i", "I", "k") }
	o := pick(rnd,
		node(where(), pick(rnd, home, other)), node(where(), home),
		service(where(), id(), pick(rnd, "web", "Web", "db"), pick(rnd, 80, 81), pick(rnd, nil, []string{"x"}, []string{"y", "X", "x"})...),
		check(where(), id(), pick(rnd, "", id()), 1+rnd.Intn(3), pick(rnd, "", "so so")),
		dropNode(where()), dropService(where(), id()), dropCheck(where(), id()))
	if rnd.Intn(4) == 0 {
		wants := []uint64{0, c.Index(), c.Index() + 1}
		for _, n := range c.View().Nodes() {
			wants = append(wants, n.Changed)
		}
		o = cas(o, pick(rnd, wants...))
	}
	if rnd.Intn(40) == 0 {
		o.Node.Addr, o.Service.Port, o.Check.Status = "", 0, 0
	}
	o.Node.Made, o.Service.Changed = rnd.Uint64(), rnd.Uint64()
	return o
}

// A catalog that is fed with what another one has committed, all at once, a commit at a time, or what it lacks now and then, comes to the same state.
func TestFedCatalogIsTheSame(t *testing.T) {
	for seed := range int64(40) {
		t.Run(strconv.FormatInt(seed, 10), func(t *testing.T) {
			rnd := rand.New(rand.NewSource(seed))
			first := pick[uint64](rnd, 0, 1, 2, 1000, math.MaxUint64-20, math.MaxUint64)
			source, follower, lagging := catalog.New(first), catalog.New(first), catalog.New(first)
			j := New(source.Index())
			states := []state{stateOf(source)}
			for range 120 {
				ops := make([]api.Op, pick(rnd, 1, 1, 2, 3, 6))
				for i := range ops {
					ops[i] = historyOp(rnd, source)
				}
				if commit(t, source, j, ops...) {
					states = append(states, stateOf(source))
					feeds(t, follower, j.Bytes(j.Last()-1), 1, api.OK, j.Last())
				}
				holdState(t, follower, states[len(states)-1])
				if rnd.Intn(10) == 0 {
					feeds(t, lagging, j.Bytes(lagging.Index()), int(j.Last()-lagging.Index()), api.OK, j.Last())
					holdState(t, lagging, states[len(states)-1])
				}
			}
			whole := catalog.New(first)
			feeds(t, whole, j.Bytes(0), len(states)-1, api.OK, source.Index())
			holdState(t, whole, stateOf(source))
			holdReplay(t, catalog.New(first), j.Since(0), states)
		})
	}
}

func holdState(t *testing.T, c *catalog.Catalog, want state) {
	t.Helper()
	if got := stateOf(c); !reflect.DeepEqual(got, want) {
		t.Fatalf("%+v, not %+v", got, want)
	}
}

// holdReplay: fed with one entry after the other, the catalog goes through all states.
func holdReplay(t *testing.T, c *catalog.Catalog, entries []api.Entry, states []state) {
	t.Helper()
	holdState(t, c, states[0])
	for i, e := range entries {
		for _, o := range e.Ops {
			if fixed, err := records.FixOp(o); err != api.OK || !sameOps([]api.Op{fixed}, []api.Op{o}) {
				t.Fatalf("%+v is not in normal form", o)
			}
		}
		feeds(t, c, frames(e), 1, api.OK, e.Index)
		holdState(t, c, states[i+1])
	}
}
