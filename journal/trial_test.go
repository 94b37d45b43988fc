package journal

import (
	"bytes"
	"math"
	"math/rand"
	"slices"
	"strings"
	"testing"
	"unsafe"

	"muster/api"
	"muster/catalog"
	"muster/records"
)

const (
	home  = "10.0.0.1"
	other = "10.0.0.2"
)

func node(name, addr string) api.Op {
	return api.Op{Kind: api.OpNode, Node: api.Node{Name: name, Addr: addr}}
}

func service(node, id, name string, port int, tags ...string) api.Op {
	return api.Op{Kind: api.OpService, Service: api.Service{Node: node, Id: id, Name: name, Port: port, Tags: tags}}
}

func check(node, id, service string, status int, note string) api.Op {
	return api.Op{Kind: api.OpCheck, Check: api.Check{Node: node, Id: id, Service: service, Status: status, Note: note}}
}

func dropNode(name string) api.Op { return api.Op{Kind: api.DropNode, Node: api.Node{Name: name}} }

func dropService(node, id string) api.Op {
	return api.Op{Kind: api.DropService, Service: api.Service{Node: node, Id: id}}
}

func dropCheck(node, id string) api.Op {
	return api.Op{Kind: api.DropCheck, Check: api.Check{Node: node, Id: id}}
}

func cas(o api.Op, want uint64) api.Op {
	o.Cas, o.Want = true, want
	return o
}

func entry(index uint64, ops ...api.Op) api.Entry { return api.Entry{Index: index, Ops: ops} }

// kinds: a sound operation of each kind, small, with and without a compare-and-set.
func kinds() []api.Op {
	var all []api.Op
	for _, o := range []api.Op{node("a", home), service("a", "i", "w", 80, "x", "y"), service("a", "i", "w", 258), check("a", "c", "i", api.Warning, "so so"), check("a", "c", "", api.Critical, ""), dropNode("a"), dropService("a", "i"), dropCheck("a", "c")} {
		all = append(all, o, cas(o, 0x0102030405060708))
	}
	return all
}

// greatest: the sound entry with the longest payload.
func greatest() api.Entry {
	long := strings.Repeat("z", 63)
	var tags []string
	for i := range 16 {
		tags = append(tags, strings.Repeat("t", 62)+string(rune('a'+i)))
	}
	e := entry(math.MaxUint64)
	for range 64 {
		e.Ops = append(e.Ops, cas(service(long, long, long, 65535, tags...), math.MaxUint64))
	}
	return e
}

// copyEntry: the entry in memory of its own.
func copyEntry(e api.Entry) api.Entry {
	e.Ops = slices.Clone(e.Ops)
	for i := range e.Ops {
		e.Ops[i].Service.Tags = slices.Clone(e.Ops[i].Service.Tags)
	}
	return e
}

// scribble: writes over all of the entry's lists, spare room included.
func scribble(e api.Entry) {
	ops := e.Ops[:cap(e.Ops)]
	for i := range ops {
		tags := ops[i].Service.Tags[:cap(ops[i].Service.Tags)]
		for k := range tags {
			tags[k] = "scribble"
		}
		ops[i] = node("scribble", "9.9.9.9")
	}
}

func scribbleBytes(b []byte) {
	b = b[:cap(b)]
	for i := range b {
		b[i] = 0xEE
	}
}

// looseText: a text that lies in bytes that can be written over.
func looseText(b []byte) string { return unsafe.String(&b[0], len(b)) }

// encodes: does Encode answer as the model says, and leave the entry as it is? The frame.
func encodes(t *testing.T, e api.Entry) []byte {
	t.Helper()
	before := copyEntry(e)
	b, err := Encode(e)
	if !sameEntry(e, before) {
		t.Fatalf("Encode has made %+v of %+v", e, before)
	}
	if !modelSound(e) {
		if len(b) != 0 || err != api.ErrEntry {
			t.Fatalf("Encode(%+v) = %v, %d", e, b, err)
		}
		return nil
	}
	if want := modelFrame(e); !bytes.Equal(b, want) || err != api.OK {
		t.Fatalf("Encode(%+v) = %v, %d, not %v", e, b, err, want)
	}
	return b
}

// decodes: does Decode answer as the model says, and leave the bytes as they are? Its error.
func decodes(t *testing.T, b []byte) api.Errno {
	t.Helper()
	before := bytes.Clone(b)
	e, n, err := Decode(b)
	want, wantN, wantErr := modelDecode(before)
	if !sameEntry(e, want) || n != wantN || err != wantErr {
		t.Fatalf("Decode(%v) = %+v, %d, %d, not %+v, %d, %d", b, e, n, err, want, wantN, wantErr)
	}
	if !bytes.Equal(b, before) {
		t.Fatalf("Decode has made %v of %v", b, before)
	}
	return err
}

// refusesBytes: Decode must refuse the bytes so.
func refusesBytes(t *testing.T, b []byte, want api.Errno) {
	t.Helper()
	if e, n, err := Decode(b); len(e.Ops) != 0 || e.Index != 0 || n != 0 || err != want {
		t.Errorf("Decode(%v) = %+v, %d, %d, not %d", b, e, n, err, want)
	}
	decodes(t, b)
}

func pick[T any](rnd *rand.Rand, from ...T) T { return from[rnd.Intn(len(from))] }

// randomLabel: mostly a short one, so that records meet.
func randomLabel(rnd *rand.Rand) string {
	return pick(rnd, "a", "b", "a-b", "0", "z9", strings.Repeat("q", 62)+"0", "a"+strings.Repeat("-", 61)+"b")
}

// randomOp: a sound one of any kind.
func randomOp(rnd *rand.Rand) api.Op {
	var tags []string
	for range pick(rnd, 0, 0, 1, 2, 5, 30) {
		tags = append(tags, randomLabel(rnd)+pick(rnd, "", "0", "x")+pick(rnd, "", "1", "y"))
	}
	tags = slices.DeleteFunc(tags, func(tag string) bool { return len(tag) > 63 })
	slices.Sort(tags)
	tags = slices.Compact(tags)
	tags = tags[:min(len(tags), 16)]
	o := pick(rnd,
		node(randomLabel(rnd), pick(rnd, home, "0.0.0.0", "255.255.255.255")),
		service(randomLabel(rnd), randomLabel(rnd), randomLabel(rnd), pick(rnd, 1, 80, 255, 256, 258, 65280, 65535), tags...),
		check(randomLabel(rnd), randomLabel(rnd), pick(rnd, "", randomLabel(rnd)), 1+rnd.Intn(3), pick(rnd, "", " ~", "All Well", strings.Repeat("n", 200))),
		dropNode(randomLabel(rnd)), dropService(randomLabel(rnd), randomLabel(rnd)), dropCheck(randomLabel(rnd), randomLabel(rnd)))
	if rnd.Intn(2) == 0 {
		o = cas(o, pick(rnd, 0, 1, 256, rnd.Uint64(), math.MaxUint64))
	}
	return o
}

func randomEntry(rnd *rand.Rand, index uint64) api.Entry {
	e := api.Entry{Index: index}
	for range pick(rnd, 1, 1, 1, 2, 3, 7, 63, 64) {
		e.Ops = append(e.Ops, randomOp(rnd))
	}
	return e
}

func randomIndex(rnd *rand.Rand) uint64 {
	return pick(rnd, 0, 1, 2, 255, 256, 1<<32, rnd.Uint64(), math.MaxUint64-1, math.MaxUint64)
}

// state is all that can be read of a catalog.
type state struct {
	index, nodeMark, serviceMark, checkMark uint64
	nodes                                   []api.Node
	services                                []api.Service
	checks                                  [4][]api.Check
	named                                   [][]api.Check
}

func stateOf(c *catalog.Catalog) state {
	v := c.View()
	s := state{index: v.Index(), nodeMark: v.Mark("nodes"), serviceMark: v.Mark("services"), checkMark: v.Mark("checks"), nodes: v.Nodes(), services: v.Services("")}
	for status := range s.checks {
		s.checks[status] = v.ByStatus(status)
	}
	for _, n := range s.nodes {
		s.named = append(s.named, v.Checks(n.Name))
	}
	return s
}

// commit: applies the list, and what the journal keeps of it, if it was committed.
func commit(t *testing.T, c *catalog.Catalog, j *Journal, ops ...api.Op) bool {
	t.Helper()
	outcome := c.Apply(ops)
	if !outcome.Changed {
		return false
	}
	e := api.Entry{Index: outcome.Index}
	for _, o := range ops {
		fixed, err := records.FixOp(o)
		if err != api.OK {
			t.Fatalf("%+v was committed", o)
		}
		e.Ops = append(e.Ops, fixed)
	}
	if err := j.Append(e); err != api.OK {
		t.Fatalf("Append(%+v) = %d", e, err)
	}
	return true
}
