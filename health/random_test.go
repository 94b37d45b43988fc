package health

import (
	"math/rand"
	"strconv"
	"testing"
	"time"

	"muster/api"
	"muster/catalog"
)

func pick[T any](rnd *rand.Rand, from ...T) T { return from[rnd.Intn(len(from))] }

// randomOp: over few names and addresses, so that instances, endpoints and checks meet.
func randomOp(rnd *rand.Rand) api.Op {
	n := pick(rnd, "a", "a-b", "a0", "ab", "b")
	id := pick(rnd, "i", "i-1", "i1", "j")
	switch rnd.Intn(12) {
	case 0, 1, 2:
		return node(n, pick(rnd, "10.0.0.1", "10.0.0.2", "9.0.0.200", "200.0.0.1", "10.0.0.10"))
	case 3, 4, 5, 6:
		return service(n, id, pick(rnd, "web", "web", "we", "db"), pick(rnd, 80, 80, 9, 443), pick(rnd, nil, []string{"x"}, []string{"x", "y"}, []string{"y"})...)
	case 7, 8, 9:
		return check(n, pick(rnd, "c", "c-1", "c1", "i"), pick(rnd, "", id, id), pick(rnd, 1, 1, 1, 1, 2, 3))
	case 10:
		return dropCheck(n, pick(rnd, "c", "c-1", "c1", "i"))
	}
	return pick(rnd, dropNode(n), dropService(n, id), dropService(n, id))
}

// Random catalogs: all that their views answer is held against the model, then and when others have come behind them.
func TestRandomCatalogs(t *testing.T) {
	statuses := map[int]int{}
	for seed := range int64(40) {
		rnd := rand.New(rand.NewSource(seed))
		c := catalog.New(uint64(rnd.Intn(5)))
		type held struct {
			v *catalog.View
			m *model
		}
		var all []held
		for round := range 120 {
			c.Apply([]api.Op{randomOp(rnd)})
			if round%6 != 5 {
				continue
			}
			v := c.View()
			m := modelOf(v)
			holdAll(t, v, m)
			for _, i := range m.instances("web", "", false) {
				statuses[i.Status]++
			}
			all = append(all, held{v, m})
		}
		for _, h := range all {
			holdAll(t, h.v, h.m)
		}
	}
	if statuses[1] < 100 || statuses[2] < 100 || statuses[3] < 100 {
		t.Errorf("a status is hardly met: %v", statuses)
	}
}

// One node with very many services and checks, and very many nodes: the work grows with what there is, not with its square.
func TestGreatCatalogs(t *testing.T) {
	const many = 6400
	c := catalog.New(1)
	commit(t, c, node("n", home))
	for start := 0; start < many; start += 64 {
		var nodes, services, checks []api.Op
		for i := start; i < start+64; i++ {
			word := strconv.Itoa(i)
			nodes = append(nodes, node("m"+word, "10.1."+strconv.Itoa(i/256)+"."+strconv.Itoa(i%256)))
			services = append(services, service("n", "s"+word, "web", 1+i))
			checks = append(checks, check("n", "c"+word, "s"+word, 1+i%3))
		}
		commit(t, c, nodes...)
		for i := range nodes {
			nodes[i] = service("m"+strconv.Itoa(start+i), "s", "web", 80)
		}
		commit(t, c, nodes...)
		commit(t, c, services...)
		commit(t, c, checks...)
	}
	v := c.View()
	begun := time.Now()
	l := Instances(v, "web", "", false)
	if len(l) != 2*many || l[many].Service.Node != "n" || len(l[many].Checks) != 1 {
		t.Errorf("%d instances", len(l))
	}
	if l := Tallies(v); len(l) != 1 || l[0] != (api.Tally{Name: "web", All: 2 * many, Passing: many + 2134, Warning: 2133, Critical: 2133}) {
		t.Errorf("%+v", l)
	}
	if l := Endpoints(v, "web", ""); len(l) != many+2134 {
		t.Errorf("%d endpoints", len(l))
	}
	if took := time.Since(begun); took > time.Minute {
		t.Errorf("it took %v", took)
	}
}
