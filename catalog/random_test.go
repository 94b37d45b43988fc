package catalog

import (
	"math"
	"math/rand"
	"strconv"
	"testing"

	"muster/api"
)

func pick[T any](rnd *rand.Rand, from ...T) T { return from[rnd.Intn(len(from))] }

func randomNode(rnd *rand.Rand) string { return pick(rnd, "a", "A", "a-b", "A-B", "a0", "ab") }

func randomId(rnd *rand.Rand) string { return pick(rnd, "i", "I", "i-1", "i1") }

// randomOp: one of the six kinds over few names, so that records meet; wrong now and then.
func randomOp(rnd *rand.Rand, m *model) api.Op {
	o := api.Op{
		Kind: 1 + rnd.Intn(6),
		Node: api.Node{Name: randomNode(rnd), Addr: pick(rnd, "10.0.0.1", "10.0.0.2"), Made: rnd.Uint64(), Changed: rnd.Uint64()},
		Service: api.Service{Node: randomNode(rnd), Id: randomId(rnd), Name: pick(rnd, "web", "Web", "db", "w"), Port: pick(rnd, 80, 81),
			Tags: pick(rnd, nil, []string{}, []string{"x"}, []string{"y", "X"}, []string{"x", "x", "Y"}), Made: rnd.Uint64(), Changed: rnd.Uint64()},
		Check: api.Check{Node: randomNode(rnd), Id: randomId(rnd), Service: pick(rnd, "", "", randomId(rnd)), Status: 1 + rnd.Intn(3),
			Note: pick(rnd, "", "well", "Well"), Made: rnd.Uint64(), Changed: rnd.Uint64()},
	}
	if rnd.Intn(3) == 0 {
		o.Kind = 1 + rnd.Intn(3)
	}
	if rnd.Intn(3) == 0 {
		o.Cas, o.Want = true, randomWant(rnd, m)
	} else {
		o.Want = pick(rnd, 0, rnd.Uint64())
	}
	if rnd.Intn(60) == 0 {
		spoil(rnd, &o)
	}
	return o
}

// randomWant: mostly a Changed that some record has, or will have.
func randomWant(rnd *rand.Rand, m *model) uint64 {
	wants := []uint64{0, m.index, m.index + 1, m.index - 1, rnd.Uint64()}
	for _, n := range m.nodes {
		wants = append(wants, n.Changed, n.Made)
	}
	for _, s := range m.services {
		wants = append(wants, s.Changed, s.Made)
	}
	for _, c := range m.checks {
		wants = append(wants, c.Changed, c.Made)
	}
	return pick(rnd, wants...)
}

func spoil(rnd *rand.Rand, o *api.Op) {
	switch rnd.Intn(6) {
	case 0:
		o.Kind = pick(rnd, 0, 7, -1, math.MaxInt)
	case 1:
		o.Node.Name, o.Service.Node, o.Check.Node = "-", "-", "-"
	case 2:
		o.Service.Id, o.Check.Id = "", ""
	case 3:
		o.Node.Addr, o.Service.Port, o.Check.Status = "10.0.0", 0, 4
	case 4:
		o.Service.Tags, o.Check.Note = []string{"_"}, "\n"
	case 5:
		o.Check.Service, o.Service.Name = "_", "_"
	}
}

// Lists of few operations over few names: held against the model, with all views and watches that were taken on the way.
func TestRandomLists(t *testing.T) {
	for seed := range int64(60) {
		rnd := rand.New(rand.NewSource(seed))
		first := pick[uint64](rnd, 0, 1, 2, 1000, math.MaxUint64-1, math.MaxUint64-25, math.MaxUint64)
		t.Run(strconv.FormatInt(seed, 10), func(t *testing.T) {
			r := newTrial(t, first)
			outcomes := map[api.Errno]int{}
			for range 150 {
				ops := make([]api.Op, pick(rnd, 1, 1, 1, 2, 3, 4, 8, 16))
				for i := range ops {
					ops[i] = randomOp(rnd, r.now)
				}
				outcomes[r.apply(ops...).Err]++
				if rnd.Intn(8) == 0 {
					r.hold()
				}
			}
			r.holdHeld()
			if outcomes[api.OK] < 10 {
				t.Errorf("hardly a list was taken: %v", outcomes)
			}
		})
	}
}

// Of all errors of this layer and of those of layer 9, each is met by random lists.
func TestRandomListsMeetAllErrors(t *testing.T) {
	rnd := rand.New(rand.NewSource(1))
	met := map[api.Errno]int{}
	for range 30 {
		m := newModel(math.MaxUint64 - 30)
		for range 200 {
			ops := make([]api.Op, pick(rnd, 0, 1, 1, 2, 3))
			for i := range ops {
				ops[i] = randomOp(rnd, m)
			}
			var outcome api.Outcome
			m, outcome = m.apply(ops)
			met[outcome.Err]++
		}
	}
	for _, e := range []api.Errno{0, 90, 91, 92, 93, 94, 95, 96, 100, 101, 102, 103, 104} {
		if met[e] == 0 {
			t.Errorf("error %d is never met", e)
		}
	}
}
