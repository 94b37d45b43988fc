package crowd

import (
	"fmt"
	"math"
	"math/rand"
	"runtime"
	"strings"
	"sync/atomic"
	"testing"
	"time"

	"muster/api"
	"muster/catalog"
)

const (
	home  = "10.0.0.1"
	other = "10.0.0.2"
)

// Numbers of workers that there can't be.
var wrongWorkers = []int{math.MinInt, math.MinInt32, -64, -1, 0, 65, 66, 128, 256 + 1, 1<<32 + 1, math.MaxInt}

// Numbers of workers that are tried where all would take too long.
var someWorkers = []int{1, 2, 3, 7, 8, 31, 63, 64}

// within: fails if what is done doesn't end.
func within(t *testing.T, what string, do func()) {
	t.Helper()
	done := make(chan int)
	go func() {
		defer close(done)
		do()
	}()
	select {
	case <-done:
	case <-time.After(time.Minute):
		t.Fatal(what)
	}
}

// applyAll: the outcomes of the lists, applied one after the other: what Write is held against.
func applyAll(c *catalog.Catalog, lists [][]api.Op) []api.Outcome {
	var outcomes []api.Outcome
	for _, ops := range lists {
		outcomes = append(outcomes, c.Apply(ops))
	}
	return outcomes
}

// filled: a catalog that was made from this index on by these lists, all of which change it.
func filled(t *testing.T, first uint64, lists ...[]api.Op) *catalog.Catalog {
	t.Helper()
	c := catalog.New(first)
	for _, o := range applyAll(c, lists) {
		if !o.Changed {
			t.Fatalf("%+v", o)
		}
	}
	return c
}

// told: all that a view shows.
func told(v *catalog.View) string {
	text := fmt.Sprintf("%d: marks %d %d %d\n%+v\n%+v\n", v.Index(), v.Mark("nodes"), v.Mark("services"), v.Mark("checks"), v.Nodes(), v.Services(""))
	for status := range 4 {
		text += fmt.Sprintf("%+v\n", v.ByStatus(status))
	}
	return text
}

// holdTold: the catalog shows that.
func holdTold(t *testing.T, c *catalog.Catalog, want string) {
	t.Helper()
	if got := told(c.View()); got != want {
		t.Fatalf("the catalog shows\n%snot\n%s", got, want)
	}
}

// holdUntouched: what is done answers an error and leaves the catalog, its views and their watches as they were.
func holdUntouched(t *testing.T, c *catalog.Catalog, do func()) {
	t.Helper()
	v, before := c.View(), told(c.View())
	do()
	holdTold(t, c, before)
	for _, table := range []string{"nodes", "services", "checks"} {
		if v.Heard(table).Fired() {
			t.Errorf("the watch of %q is fired", table)
		}
	}
}

// stacks: what each goroutine is at, all at one moment.
func stacks() []string {
	room := make([]byte, 1<<20)
	return strings.Split(string(room[:runtime.Stack(room, true)]), "\n\n")
}

// seen is what one who looks on has seen of a call of this package.
type seen struct {
	// most is the greatest number of goroutines at once that the call has started.
	most int
	// caller and others: how often the calling goroutine was seen in Apply, and how often one that the call has started.
	caller, others int
}

func (s *seen) look(call string) {
	count := 0
	for _, stack := range stacks() {
		started := strings.Contains(stack, "created by muster/crowd."+call+" ")
		applies := strings.Contains(stack, "muster/catalog.(*Catalog).Apply(")
		switch {
		case started && applies:
			s.others++
		case applies && strings.Contains(stack, "muster/crowd."+call+"("):
			s.caller++
		}
		if started {
			count++
		}
	}
	s.most = max(s.most, count)
}

// waitForLast: waits until no goroutine is left of a call that has answered. One that has nothing more to do may take a while to be gone.
func waitForLast(call string) {
	for left := 1; left > 0; {
		var s seen
		s.look(call)
		left = s.most
	}
}

// lookOn: looks on while the work is done, three times at least, and until enough is seen.
func lookOn(t *testing.T, call string, enough func(seen) bool, work func()) seen {
	t.Helper()
	// Whoever looks on isn't to wait until somebody makes room.
	defer runtime.GOMAXPROCS(runtime.GOMAXPROCS(max(4, runtime.GOMAXPROCS(0))))
	var s seen
	within(t, "not enough is seen", func() {
		for try := 0; try < 3 || !enough(s); try++ {
			waitForLast(call)
			var done atomic.Int64
			looked := make(chan int)
			go func() {
				defer close(looked)
				for done.Load() == 0 {
					s.look(call)
				}
			}()
			work()
			done.Store(1)
			<-looked
		}
	})
	return s
}

// holdAtWork: the work, which is that call, is done by so many goroutines at once, and never more.
func holdAtWork(t *testing.T, call string, want int, work func()) {
	t.Helper()
	enough := func(s seen) bool { return s.most >= want }
	if s := lookOn(t, call, enough, work); s.most != want {
		t.Errorf("%s: %d goroutines at work, not %d", call, s.most, want)
	}
}

// holdOneApplies: of all goroutines of that call the calling one alone applies lists.
func holdOneApplies(t *testing.T, call string, work func()) {
	t.Helper()
	enough := func(s seen) bool { return s.caller+s.others > 20 }
	if s := lookOn(t, call, enough, work); s.others > 0 {
		t.Errorf("%s: of those in Apply %d were the caller, %d others", call, s.caller, s.others)
	}
}

// holdJoined: with one processor the goroutines that a call has waited for are gone when it answers, and those that it hasn't waited for are not, but where the scheduler happens to break in.
func holdJoined(t *testing.T, call string, work func()) {
	t.Helper()
	defer runtime.GOMAXPROCS(runtime.GOMAXPROCS(1))
	const tries = 60
	left := 0
	for range tries {
		work()
		var s seen
		if s.look(call); s.most > 0 {
			left++
		}
	}
	if left > tries/2 {
		t.Errorf("%s: goroutines were left behind %d of %d calls", call, left, tries)
	}
}

// scrawl: writes over a list, spare room too.
func scrawl[R any](l []R, r R) {
	l = l[:cap(l)]
	for i := range l {
		l[i] = r
	}
}

// roomy: the list with spare room behind it, in which r stands.
func roomy[R any](l []R, r R) []R {
	room := make([]R, len(l)+3)
	scrawl(room, r)
	copy(room, l)
	return room[:len(l)]
}

// toldOps: all of the lists, their spare room and that of their tags too.
func toldOps(lists [][]api.Op) string {
	text := ""
	for _, ops := range lists[:cap(lists)] {
		text += fmt.Sprintf("%d of %d: ", len(ops), cap(ops))
		for _, o := range ops[:cap(ops)] {
			text += fmt.Sprintf("%+v %q ", o, o.Service.Tags[:cap(o.Service.Tags)])
		}
		text += "\n"
	}
	return text
}

// Ready operations.

func node(name, addr string) api.Op {
	return api.Op{Kind: api.OpNode, Node: api.Node{Name: name, Addr: addr}}
}

func service(node, id, name string, port int, tags ...string) api.Op {
	return api.Op{Kind: api.OpService, Service: api.Service{Node: node, Id: id, Name: name, Port: port, Tags: tags}}
}

func check(node, id, service string, status int, note string) api.Op {
	return api.Op{Kind: api.OpCheck, Check: api.Check{Node: node, Id: id, Service: service, Status: status, Note: note}}
}

func dropNode(name string) api.Op {
	return api.Op{Kind: api.DropNode, Node: api.Node{Name: name}}
}

func dropService(node, id string) api.Op {
	return api.Op{Kind: api.DropService, Service: api.Service{Node: node, Id: id}}
}

func dropCheck(node, id string) api.Op {
	return api.Op{Kind: api.DropCheck, Check: api.Check{Node: node, Id: id}}
}

// cas: the operation, if the record's Changed is want.
func cas(o api.Op, want uint64) api.Op {
	o.Cas, o.Want = true, want
	return o
}

// Random lists.

func pick[T any](rnd *rand.Rand, from ...T) T { return from[rnd.Intn(len(from))] }

func randomNode(rnd *rand.Rand) string { return pick(rnd, "a", "A", "a-b", "A-B", "a0", "ab") }

func randomId(rnd *rand.Rand) string { return pick(rnd, "i", "I", "i-1", "i1") }

// randomOp: one of the six kinds over few names, so that records meet; wrong now and then.
func randomOp(rnd *rand.Rand, first uint64) api.Op {
	o := api.Op{
		Kind: pick(rnd, 1, 1, 1, 2, 2, 2, 3, 3, 3, 4, 5, 6),
		Node: api.Node{Name: randomNode(rnd), Addr: pick(rnd, home, other), Made: rnd.Uint64(), Changed: rnd.Uint64()},
		Service: api.Service{Node: randomNode(rnd), Id: randomId(rnd), Name: pick(rnd, "web", "Web", "db"), Port: pick(rnd, 80, 81),
			Tags: pick(rnd, nil, []string{}, []string{"x"}, []string{"y", "X"}, []string{"x", "x", "Y"}), Made: rnd.Uint64(), Changed: rnd.Uint64()},
		Check: api.Check{Node: randomNode(rnd), Id: randomId(rnd), Service: pick(rnd, "", "", randomId(rnd)), Status: 1 + rnd.Intn(3),
			Note: pick(rnd, "", "well", "Well"), Made: rnd.Uint64(), Changed: rnd.Uint64()},
		Want: pick(rnd, 0, 0, first+uint64(rnd.Intn(40))),
	}
	o.Cas = rnd.Intn(6) == 0
	if rnd.Intn(30) == 0 {
		spoil(rnd, &o)
	}
	return o
}

func spoil(rnd *rand.Rand, o *api.Op) {
	switch rnd.Intn(6) {
	case 0:
		o.Kind = pick(rnd, 0, 7, -1, math.MaxInt)
	case 1:
		o.Node.Name, o.Service.Node, o.Check.Node = "-", "-", "-"
	case 2:
		o.Service.Id, o.Check.Id = "", ""
	case 3:
		o.Node.Addr, o.Service.Port, o.Check.Status = "10.0.0", 0, 4
	case 4:
		o.Service.Tags, o.Check.Note = []string{"_"}, "\n"
	case 5:
		o.Check.Service, o.Service.Name = "_", "_"
	}
}

func randomLists(rnd *rand.Rand, count int, first uint64) [][]api.Op {
	lists := make([][]api.Op, count)
	for i := range lists {
		lists[i] = make([]api.Op, pick(rnd, 0, 1, 1, 1, 1, 2, 2, 3, 4, 8, 64, 65))
		for at := range lists[i] {
			lists[i][at] = randomOp(rnd, first)
		}
	}
	return lists
}
