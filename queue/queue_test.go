package queue

import (
	"errors"
	"math"
	"slices"
	"testing"
	"unsafe"

	"muster/api"
	"muster/catalog"
)

// The chapter's example.
func TestExample(t *testing.T) {
	q, c := New(1), catalog.New(0)
	if ticket, err := q.Submit([]api.Op{node("a", home)}); ticket != 1 || err != nil {
		t.Fatal(ticket, err)
	}
	ticket, err := q.Submit([]api.Op{node("b", home)})
	if ticket != 0 {
		t.Error(ticket)
	}
	refused(t, err, 1, api.ErrFull)
	if ticket, ok := q.Step(c); ticket != 1 || !ok {
		t.Error(ticket, ok)
	}
	if ticket, err := q.Submit([]api.Op{node("b", home)}); ticket != 2 || err != nil {
		t.Error(ticket, err)
	}
	if o, state := q.Take(1); state != api.TicketDone || o != (api.Outcome{Index: 2, Changed: true}) {
		t.Error(o, state)
	}
	if o, state := q.Take(1); state != api.TicketNone || o != (api.Outcome{}) {
		t.Error(o, state)
	}
}

// Types

func TestStates(t *testing.T) {
	if api.TicketNone != 0 || api.TicketWaiting != 1 || api.TicketDone != 2 {
		t.Error(api.TicketNone, api.TicketWaiting, api.TicketDone)
	}
}

func TestRefusal(t *testing.T) {
	for _, x := range []struct {
		err  error
		text string
	}{{api.ErrFull, "queue: full"}, {api.ErrClosed, "queue: closed"}} {
		var err error = &Refusal{Waiting: 3, Err: x.err}
		if err.Error() != x.text {
			t.Errorf("%q, not %q", err.Error(), x.text)
		}
		if errors.Unwrap(err) != x.err || !errors.Is(err, x.err) {
			t.Errorf("%v is not %v", err, x.err)
		}
		var r *Refusal
		if !errors.As(err, &r) || r.Waiting != 3 || r.Err != x.err {
			t.Errorf("%+v", r)
		}
	}
	if errors.Is(&Refusal{Err: api.ErrFull}, api.ErrClosed) || errors.Is(&Refusal{Err: api.ErrClosed}, api.ErrFull) {
		t.Error("full is closed")
	}
	// One without a reason is none that a queue gives, but its calls end all the same.
	if r := (&Refusal{}); r.Error() != "queue: " || r.Unwrap() != nil {
		t.Error(r)
	}
}

// Each refusal is an object of its own: one that is written over changes no other.
func TestRefusalsAreNew(t *testing.T) {
	q := New(0)
	_, first := q.Submit(nil)
	first.(*Refusal).Waiting = 9
	first.(*Refusal).Err = api.ErrClosed
	_, second := q.Submit(nil)
	refused(t, second, 0, api.ErrFull)
}

// P12.1

func TestNew(t *testing.T) {
	for _, most := range []int{math.MinInt, -2, -1, 0} {
		q := New(most)
		ticket, err := q.Submit([]api.Op{node("a", home)})
		if ticket != 0 || q.Waiting() != 0 {
			t.Errorf("New(%d): ticket %d, %d wait", most, ticket, q.Waiting())
		}
		refused(t, err, 0, api.ErrFull)
	}
	for most := 1; most < 5; most++ {
		q := New(most)
		if q.Waiting() != 0 {
			t.Error(q.Waiting())
		}
		for i := range most {
			if ticket, err := q.Submit(nil); ticket != uint64(i+1) || err != nil {
				t.Errorf("New(%d): %d, %v", most, ticket, err)
			}
		}
		_, err := q.Submit(nil)
		refused(t, err, most, api.ErrFull)
	}
	q := New(math.MaxInt)
	for i := range 1000 {
		if ticket, err := q.Submit(nil); ticket != uint64(i+1) || err != nil {
			t.Fatal(ticket, err)
		}
	}
}

func TestNewIsEmpty(t *testing.T) {
	for _, most := range []int{-1, 0, 1, math.MaxInt} {
		q, c := New(most), catalog.New(7)
		if ticket, ok := q.Step(c); ticket != 0 || ok || c.Index() != 7 {
			t.Error(ticket, ok, c.Index())
		}
		for _, ticket := range []uint64{0, 1, 2, math.MaxUint64} {
			if o, state := q.Take(ticket); o != (api.Outcome{}) || state != api.TicketNone || q.Withdraw(ticket) {
				t.Error(ticket, o, state)
			}
		}
	}
}

// Two queues know nothing of each other.
func TestQueuesAreApart(t *testing.T) {
	a, b, c := New(1), New(1), catalog.New(1)
	a.Submit([]api.Op{node("a", home)})
	if ticket, err := b.Submit([]api.Op{node("b", home)}); ticket != 1 || err != nil {
		t.Error(ticket, err)
	}
	a.Close()
	b.Step(c)
	if _, state := a.Take(1); state != api.TicketWaiting {
		t.Error(state)
	}
	if o, state := b.Take(1); state != api.TicketDone || o.Index != 2 {
		t.Error(o, state)
	}
	if _, err := b.Submit(nil); err != nil {
		t.Error(err)
	}
}

// P12.2

// A refused Submit uses no ticket and no room.
func TestRefusedUsesNoTicket(t *testing.T) {
	r := newTrial(t, 2)
	r.submit(node("a", home))
	r.submit(node("b", home))
	for range 5 {
		if r.submit(node("c", home)) != 0 {
			t.Error("more than two wait")
		}
	}
	r.step()
	if ticket := r.submit(node("d", home)); ticket != 3 {
		t.Errorf("ticket %d", ticket)
	}
	r.end()
	if _, ok := r.catalog.View().Node("c"); ok {
		t.Error("a refused list was applied")
	}
}

// Of a queue that is closed and full it is told that it is closed.
func TestClosedAheadOfFull(t *testing.T) {
	for most := range 4 {
		for wait := range most + 1 {
			q := New(most)
			for range wait {
				q.Submit(nil)
			}
			q.Close()
			ticket, err := q.Submit([]api.Op{node("a", home)})
			if ticket != 0 || q.Waiting() != wait {
				t.Errorf("ticket %d, %d wait", ticket, q.Waiting())
			}
			refused(t, err, wait, api.ErrClosed)
		}
	}
}

// A list isn't looked at: what the catalog will refuse is taken all the same, and its outcome says so.
func TestAnyListIsTaken(t *testing.T) {
	long := slices.Repeat([]api.Op{node("a", home)}, api.MaxOps+1)
	for _, x := range []struct {
		ops  []api.Op
		want api.Outcome
	}{
		{nil, api.Outcome{Index: 5, Err: api.ErrOps}},
		{[]api.Op{}, api.Outcome{Index: 5, Err: api.ErrOps}},
		{make([]api.Op, 0, 9), api.Outcome{Index: 5, Err: api.ErrOps}},
		{long, api.Outcome{Index: 5, Err: api.ErrOps}},
		{long[1:], api.Outcome{Index: 6, Changed: true}},
		{[]api.Op{{}}, api.Outcome{Index: 5, Err: api.ErrOp}},
		{[]api.Op{node("a", home), node("b", home), {Kind: math.MinInt}}, api.Outcome{Index: 5, Err: api.ErrOp, At: 2}},
		{[]api.Op{node("a", home), node("_", home)}, api.Outcome{Index: 5, Err: api.ErrLabel, At: 1}},
		{[]api.Op{service("a", "s", "web", 80)}, api.Outcome{Index: 5, Err: api.ErrNoNode}},
		{[]api.Op{dropNode("a")}, api.Outcome{Index: 5}},
		{[]api.Op{node("a", home)}, api.Outcome{Index: 6, Changed: true}},
	} {
		q, c := New(1), catalog.New(5)
		if ticket, err := q.Submit(x.ops); ticket != 1 || err != nil {
			t.Fatalf("%v, %v of %+v", ticket, err, x.ops)
		}
		if ticket, ok := q.Step(c); ticket != 1 || !ok {
			t.Errorf("%v, %v of %+v", ticket, ok, x.ops)
		}
		if o, state := q.Take(1); o != x.want || state != api.TicketDone {
			t.Errorf("%+v, %d, not %+v", o, state, x.want)
		}
	}
}

// text: a text that lies in memory that is written over later.
func text(room []byte) string { return unsafe.String(&room[0], len(room)) }

// The list is kept as it was at the call, however it is written over while it waits.
func TestListIsKeptAsItWas(t *testing.T) {
	q, c := New(1), catalog.New(1)
	name, addr, note := []byte("web"), []byte(home), []byte("well")
	tags := []string{text(name), "x"}
	ops := []api.Op{
		{Kind: api.OpNode, Node: api.Node{Name: text(name), Addr: text(addr)}},
		{Kind: api.OpService, Service: api.Service{Node: text(name), Id: text(name), Name: text(name), Port: 80, Tags: tags}},
		{Kind: api.OpCheck, Check: api.Check{Node: text(name), Id: text(name), Service: text(name), Status: 2, Note: text(note)}, Cas: true},
	}
	q.Submit(ops)
	copy(name, "***")
	copy(addr, "********")
	copy(note, "****")
	tags[0], tags[1] = "over", "over"
	clear(ops)
	q.Step(c)
	if o, _ := q.Take(1); o != (api.Outcome{Index: 2, Changed: true}) {
		t.Fatalf("%+v", o)
	}
	v := c.View()
	if n, ok := v.Node("web"); !ok || n.Addr != home {
		t.Errorf("%+v", n)
	}
	if l := v.Services("web"); len(l) != 1 || l[0].Node != "web" || l[0].Id != "web" || l[0].Port != 80 || !slices.Equal(l[0].Tags, []string{"web", "x"}) {
		t.Errorf("%+v", l)
	}
	if l := v.Checks("web"); len(l) != 1 || l[0].Id != "web" || l[0].Service != "web" || l[0].Status != 2 || l[0].Note != "well" {
		t.Errorf("%+v", l)
	}
}

// Each part of each operation that waits comes through to the catalog: kinds, Cas and Want too.
func TestWholeListIsKept(t *testing.T) {
	cas := func(o api.Op, want uint64) api.Op {
		o.Cas, o.Want = true, want
		return o
	}
	lists := [][]api.Op{
		{node("n", home), service("n", "s", "web", 80, "b", "a"), check("n", "c", "s", 3, "bad"), check("n", "d", "", 1, "")},
		{cas(node("n", other), 1)},
		{cas(node("n", other), 2), cas(service("n", "s", "db", 81), 2)},
		{cas(service("n", "s", "db", 82), 2)},
		{{Kind: api.DropCheck, Check: api.Check{Node: "n", Id: "c"}, Cas: true, Want: 2}},
		{{Kind: api.DropService, Service: api.Service{Node: "n", Id: "s"}, Cas: true, Want: 2}},
		{{Kind: api.DropService, Service: api.Service{Node: "n", Id: "s"}, Cas: true, Want: 3}},
		{dropNode("n")},
	}
	r := newTrial(t, len(lists))
	for _, ops := range lists {
		r.submit(ops...)
	}
	for i, want := range []api.Outcome{
		{Index: 2, Changed: true}, {Index: 2, Err: api.ErrStale}, {Index: 3, Changed: true}, {Index: 3, Err: api.ErrStale},
		{Index: 4, Changed: true}, {Index: 4, Err: api.ErrStale}, {Index: 5, Changed: true}, {Index: 6, Changed: true},
	} {
		r.step()
		if o, _ := r.take(uint64(i + 1)); o != want {
			t.Errorf("%+v, not %+v", o, want)
		}
	}
}

// What is handed in is not changed, spare room included, neither by Submit nor by what comes behind it.
func TestListIsNotChanged(t *testing.T) {
	make2 := func() ([]api.Op, []string) {
		tags := append(make([]string, 0, 4), "B", "a", "b")
		room := append(make([]api.Op, 0, 5), node("N", home), service("N", "S", "Web", 80, tags...), check("N", "C", "S", 1, "x"), node("spare", "x"))
		room[1].Service.Tags = tags
		room[0].Want = 9
		return room[:3], tags[:cap(tags)]
	}
	ops, tags := make2()
	was, wasTags := make2()
	q, c := New(1), catalog.New(1)
	q.Submit(ops)
	q.Submit(ops)
	q.Step(c)
	if !slices.Equal(tags, wasTags) {
		t.Errorf("%q", tags)
	}
	all, wasAll := ops[:cap(ops)], was[:cap(was)]
	for i := range all {
		if !sameOp(all[i], wasAll[i]) {
			t.Errorf("%+v, not %+v", all[i], wasAll[i])
		}
	}
}

func sameOp(a, b api.Op) bool {
	s, u := a.Service, b.Service
	return a.Kind == b.Kind && a.Node == b.Node && a.Check == b.Check && a.Cas == b.Cas && a.Want == b.Want &&
		s.Node == u.Node && s.Id == u.Id && s.Name == u.Name && s.Port == u.Port && s.Made == u.Made && s.Changed == u.Changed && slices.Equal(s.Tags, u.Tags)
}

// The same list may wait more than once.
func TestSameListTwice(t *testing.T) {
	r := newTrial(t, 3)
	ops := []api.Op{node("a", home)}
	for range 3 {
		r.submit(ops...)
	}
	r.withdraw(2)
	r.step()
	r.step()
	if o, _ := r.take(1); o != (api.Outcome{Index: 2, Changed: true}) {
		t.Errorf("%+v", o)
	}
	if o, _ := r.take(3); o != (api.Outcome{Index: 2}) {
		t.Errorf("%+v", o)
	}
	r.end()
}

// P12.3

// Outcomes that nobody has taken don't wait, and hold no room.
func TestWaitingCountsListsAlone(t *testing.T) {
	q, c := New(2), catalog.New(1)
	for i := range 100 {
		q.Submit([]api.Op{node("a", home)})
		q.Submit([]api.Op{node("a", other)})
		if q.Waiting() != 2 {
			t.Fatal(q.Waiting())
		}
		q.Step(c)
		if q.Waiting() != 1 {
			t.Fatal(q.Waiting())
		}
		q.Step(c)
		if q.Waiting() != 0 || c.Index() != uint64(3+2*i) {
			t.Fatal(q.Waiting(), c.Index())
		}
	}
}

// P12.4

// Whichever of the lists is withdrawn: it isn't applied, the others are, in their order, and there is room for another.
func TestWithdraw(t *testing.T) {
	names := []string{"a", "b", "c", "d"}
	for gone := range 1 << len(names) {
		r := newTrial(t, len(names))
		for _, name := range names {
			r.submit(node(name, home))
		}
		for i := range names {
			if gone>>i&1 == 1 {
				ticket := uint64(i + 1)
				if !r.withdraw(ticket) || r.withdraw(ticket) {
					t.Fatal("not withdrawn once")
				}
				if o, state := r.take(ticket); o != (api.Outcome{}) || state != api.TicketNone {
					t.Fatal(o, state)
				}
				if next := r.submit(node("more"+names[i], home)); next <= uint64(len(names)) {
					t.Fatalf("ticket %d", next)
				}
			}
		}
		r.submit(node("full", home))
		r.end()
		v := r.catalog.View()
		for i, name := range names {
			if _, ok := v.Node(name); ok == (gone>>i&1 == 1) {
				t.Errorf("%q: %v", name, ok)
			}
		}
	}
}

// What waits no more, or never did, can't be withdrawn, and stays what it is.
func TestWithdrawWhatDoesNotWait(t *testing.T) {
	r := newTrial(t, 3)
	r.submit(node("a", home))
	r.submit(node("b", home))
	r.submit(node("c", home))
	r.step()
	for _, ticket := range []uint64{0, 1, 4, 1 << 32, 1<<32 + 2, 1<<63 + 2, math.MaxUint64} {
		if r.withdraw(ticket) {
			t.Errorf("%d was withdrawn", ticket)
		}
	}
	if o, state := r.take(1); o != (api.Outcome{Index: 2, Changed: true}) || state != api.TicketDone {
		t.Error(o, state)
	}
	if r.withdraw(1) {
		t.Error("withdrawn behind Take")
	}
	r.close()
	if !r.withdraw(3) || r.withdraw(3) {
		t.Error("a closed queue gives lists back, too")
	}
	r.end()
}

// P12.5

func TestOldestFirst(t *testing.T) {
	r := newTrial(t, 5)
	for _, addr := range []string{home, other, home, other, home} {
		r.submit(node("a", addr))
	}
	for i := range 5 {
		if ticket := r.step(); ticket != uint64(i+1) {
			t.Errorf("%d, not %d", ticket, i+1)
		}
		if n, ok := r.catalog.View().Node("a"); !ok || n.Addr != []string{home, other}[i%2] || n.Changed != uint64(i+2) {
			t.Errorf("behind step %d: %+v", i, n)
		}
	}
	if r.step() != 0 {
		t.Error("a sixth list")
	}
	// Lists that come later are worked off all the same.
	if ticket := r.submit(node("b", home)); ticket != 6 || r.step() != 6 {
		t.Error(ticket)
	}
}

// A step is one list: nothing else is applied, and nothing is applied ahead of it.
func TestOneListAStep(t *testing.T) {
	q, c := New(3), catalog.New(1)
	for _, name := range []string{"a", "b", "c"} {
		q.Submit([]api.Op{node(name, home)})
	}
	for i := range 3 {
		if len(c.View().Nodes()) != i {
			t.Errorf("%d nodes ahead of step %d", len(c.View().Nodes()), i)
		}
		q.Step(c)
	}
}

// A list that the catalog refuses is a step, too, and the ones behind it are applied.
func TestRefusedListIsAStep(t *testing.T) {
	r := newTrial(t, 3)
	r.submit(node("_", home))
	r.submit()
	r.submit(node("a", home))
	for want := uint64(1); want <= 3; want++ {
		if ticket := r.step(); ticket != want {
			t.Errorf("%d, not %d", ticket, want)
		}
	}
	if o, state := r.take(1); o != (api.Outcome{Index: 1, Err: api.ErrLabel}) || state != api.TicketDone {
		t.Error(o, state)
	}
	r.end()
}

// Each step may go to another catalog.
func TestStepToSeveralCatalogs(t *testing.T) {
	q, a, b := New(3), catalog.New(10), catalog.New(20)
	for _, name := range []string{"x", "y", "z"} {
		q.Submit([]api.Op{node(name, home)})
	}
	q.Step(a)
	q.Step(b)
	q.Step(a)
	for ticket, want := range map[uint64]uint64{1: 11, 2: 21, 3: 12} {
		if o, state := q.Take(ticket); o != (api.Outcome{Index: want, Changed: true}) || state != api.TicketDone {
			t.Error(ticket, o, state)
		}
	}
	if len(a.View().Nodes()) != 2 || len(b.View().Nodes()) != 1 {
		t.Error(a.View().Nodes(), b.View().Nodes())
	}
}

// A catalog whose index can't rise: the outcome says so.
func TestExhausted(t *testing.T) {
	q, c := New(2), catalog.New(math.MaxUint64)
	q.Submit([]api.Op{node("a", home)})
	q.Submit([]api.Op{dropNode("a")})
	q.Step(c)
	q.Step(c)
	if o, state := q.Take(1); o != (api.Outcome{Index: math.MaxUint64, Err: api.ErrIndexExhausted}) || state != api.TicketDone {
		t.Error(o, state)
	}
	if o, state := q.Take(2); o != (api.Outcome{Index: math.MaxUint64}) || state != api.TicketDone {
		t.Error(o, state)
	}
}

// P12.6

// A ticket that waits may be asked for as often as one likes; an outcome is given once.
func TestTake(t *testing.T) {
	r := newTrial(t, 2)
	r.submit(node("a", home))
	r.submit(node("a", home))
	for range 3 {
		for ticket := uint64(1); ticket <= 2; ticket++ {
			if o, state := r.take(ticket); o != (api.Outcome{}) || state != api.TicketWaiting {
				t.Error(o, state)
			}
		}
	}
	r.step()
	if _, state := r.take(2); state != api.TicketWaiting {
		t.Error(state)
	}
	r.step()
	// Numbers that are like the tickets but for their upper bits are none of them.
	for _, ticket := range []uint64{0, 3, 1 << 32, 1<<32 + 1, 1<<63 + 2, math.MaxUint64} {
		if o, state := r.take(ticket); o != (api.Outcome{}) || state != api.TicketNone {
			t.Error(ticket, o, state)
		}
	}
	// In any order.
	if o, state := r.take(2); o != (api.Outcome{Index: 2}) || state != api.TicketDone {
		t.Error(o, state)
	}
	if o, state := r.take(1); o != (api.Outcome{Index: 2, Changed: true}) || state != api.TicketDone {
		t.Error(o, state)
	}
	for _, ticket := range []uint64{0, 1, 2, 3, 1<<32 + 1, 1<<63 + 1, math.MaxUint64} {
		if o, state := r.take(ticket); o != (api.Outcome{}) || state != api.TicketNone {
			t.Error(ticket, o, state)
		}
	}
}

// An outcome stays as it was, whatever the catalog comes to behind it.
func TestOutcomesStay(t *testing.T) {
	q, c := New(1), catalog.New(1)
	for i := range 50 {
		q.Submit([]api.Op{node("a", []string{home, other}[i%2])})
		q.Step(c)
	}
	q.Close()
	for i := range 50 {
		if o, state := q.Take(uint64(50 - i)); o != (api.Outcome{Index: uint64(51 - i), Changed: true}) || state != api.TicketDone {
			t.Error(o, state)
		}
	}
}

// P12.7

// A closed queue takes no list, for ever; what waits is worked off, and what was applied can be taken.
func TestClose(t *testing.T) {
	r := newTrial(t, 3)
	r.submit(node("a", home))
	r.submit(node("b", home))
	r.submit(node("c", home))
	r.step()
	for range 3 {
		r.close()
		r.submit(node("d", home))
	}
	if o, state := r.take(1); o != (api.Outcome{Index: 2, Changed: true}) || state != api.TicketDone {
		t.Error(o, state)
	}
	if r.step() != 2 || r.step() != 3 || r.step() != 0 {
		t.Error("not worked off")
	}
	r.submit(node("d", home))
	r.close()
	r.submit(node("d", home))
	if o, state := r.take(3); o != (api.Outcome{Index: 4, Changed: true}) || state != api.TicketDone {
		t.Error(o, state)
	}
	r.end()
	if _, ok := r.catalog.View().Node("d"); ok {
		t.Error("a refused list was applied")
	}
}

func TestCloseOfAnEmptyQueue(t *testing.T) {
	for most := range 3 {
		r := newTrial(t, most)
		r.close()
		r.close()
		r.submit()
		r.step()
		r.end()
	}
}
