package records

import (
	"math"
	"math/rand"
	"reflect"
	"slices"
	"strconv"
	"strings"
	"testing"
	"unsafe"

	"muster/api"
)

func sameService(a, b api.Service) bool {
	if !slices.Equal(a.Tags, b.Tags) {
		return false
	}
	a.Tags, b.Tags = nil, nil
	return reflect.DeepEqual(a, b)
}

func sameOp(a, b api.Op) bool {
	return a.Kind == b.Kind && a.Node == b.Node && sameService(a.Service, b.Service) && a.Check == b.Check && a.Cas == b.Cas && a.Want == b.Want
}

func alike[T comparable](a, b T) bool { return a == b }

// trial holds a call against the model's.
type trial[In, Out any] struct {
	name        string
	call, model func(In) (Out, api.Errno)
	same        func(a, b Out) bool
}

var (
	labels   = trial[string, string]{"Label", Label, modelLabel, alike[string]}
	addrs    = trial[string, [4]byte]{"Addr", Addr, modelAddr, alike[[4]byte]}
	nodes    = trial[api.Node, api.Node]{"FixNode", FixNode, modelNode, alike[api.Node]}
	services = trial[api.Service, api.Service]{"FixService", FixService, modelService, sameService}
	checks   = trial[api.Check, api.Check]{"FixCheck", FixCheck, modelCheck, alike[api.Check]}
	ops      = trial[api.Op, api.Op]{"FixOp", FixOp, modelOp, sameOp}
)

// answers: does the call answer so?
func (r trial[In, Out]) answers(t *testing.T, in In, want Out, wantE api.Errno) bool {
	t.Helper()
	out, e := r.call(in)
	if !r.same(out, want) || e != wantE {
		t.Errorf("%s(%#v) = %#v, %d, not %#v, %d", r.name, in, out, e, want, wantE)
		return false
	}
	return true
}

// hold: does the call answer as the model does?
func (r trial[In, Out]) hold(t *testing.T, in In) bool {
	t.Helper()
	want, wantE := r.model(in)
	return r.answers(t, in, want, wantE)
}

// is: does the call answer so, and the model?
func (r trial[In, Out]) is(t *testing.T, in In, want Out, wantE api.Errno) {
	t.Helper()
	r.answers(t, in, want, wantE)
	r.hold(t, in)
}

func TestNumbers(t *testing.T) {
	errs := []api.Errno{api.ErrLabel, api.ErrAddr, api.ErrPort, api.ErrTags, api.ErrStatus, api.ErrNote, api.ErrOp}
	for i, e := range errs {
		if e != api.Errno(90+i) {
			t.Errorf("error %d is %d", 90+i, e)
		}
	}
	if api.MaxLabel != 63 || api.MaxTags != 16 || api.MaxNote != 200 {
		t.Errorf("%d, %d, %d", api.MaxLabel, api.MaxTags, api.MaxNote)
	}
	if api.Passing != 1 || api.Warning != 2 || api.Critical != 3 {
		t.Errorf("%d, %d, %d", api.Passing, api.Warning, api.Critical)
	}
	for i, kind := range []int{api.OpNode, api.OpService, api.OpCheck, api.DropNode, api.DropService, api.DropCheck} {
		if kind != 1+i {
			t.Errorf("kind %d is %d", 1+i, kind)
		}
	}
}

func TestChapterExamples(t *testing.T) {
	labels.is(t, "Web-1", "web-1", api.OK)
	labels.is(t, "-a", "", api.ErrLabel)
	addrs.is(t, "10.0.0.255", [4]byte{10, 0, 0, 255}, api.OK)
	addrs.is(t, "010.0.0.1", [4]byte{}, api.ErrAddr)
	s := api.Service{Node: "n", Id: "i", Name: "w", Port: 80, Tags: []string{"b", "A", "a"}}
	services.is(t, s, api.Service{Node: "n", Id: "i", Name: "w", Port: 80, Tags: []string{"a", "b"}}, api.OK)
}

func TestLabel(t *testing.T) {
	for in, want := range map[string]string{
		"a":                                 "a",
		"Z":                                 "z",
		"0":                                 "0",
		"9":                                 "9",
		"A-Z":                               "a-z",
		"a--b":                              "a--b",
		"0-9":                               "0-9",
		strings.Repeat("Q", 63):             strings.Repeat("q", 63),
		"a" + strings.Repeat("-", 61) + "B": "a" + strings.Repeat("-", 61) + "b",
	} {
		labels.is(t, in, want, api.OK)
	}
	for _, s := range []string{
		"", "-", "--", "-a", "a-", "-a-", "a_b", "a.b", "a b", " a", "a ", "a\n", "\na", "a\x00", "ä", "aä", "äa", "\u212a", "a\xff", "１",
		strings.Repeat("q", 64), "a" + strings.Repeat("-", 62) + "b", strings.Repeat("q", 63) + "-", strings.Repeat("a", 1<<20),
	} {
		labels.is(t, s, "", api.ErrLabel)
	}
	for n := range 130 {
		labels.hold(t, strings.Repeat("A", n))
		labels.hold(t, strings.Repeat("-", n))
	}
}

func TestLabelAllBytes(t *testing.T) {
	for b := range 256 {
		for c := range 256 {
			if !labels.hold(t, string([]byte{byte(b), byte(c)})) {
				return
			}
		}
		one := string([]byte{byte(b)})
		for _, s := range []string{one, "x" + one + "Y", "XX" + one + "yyyy", strings.Repeat("X", 62) + one, one + strings.Repeat("x", 62)} {
			labels.hold(t, s)
		}
	}
}

// A label's label is itself.
func TestLabelTwice(t *testing.T) {
	for _, s := range []string{"A", "Web-1", "x--Y", strings.Repeat("Zz9", 21)} {
		once, e := Label(s)
		if e != api.OK {
			t.Fatal(s, e)
		}
		labels.is(t, once, once, api.OK)
	}
}

func TestAddr(t *testing.T) {
	addrs.is(t, "0.0.0.0", [4]byte{}, api.OK)
	addrs.is(t, "255.255.255.255", [4]byte{255, 255, 255, 255}, api.OK)
	addrs.is(t, "1.20.199.209", [4]byte{1, 20, 199, 209}, api.OK)
	for _, s := range []string{
		"", ".", "...", "....", "1", "1.2", "1.2.3", "1.2.3.", ".1.2.3", "1..2.3", "1.2.3.4.", ".1.2.3.4", "1.2.3.4.5", "1.2.3.4.5.6", "1.2.3..4",
		"01.2.3.4", "1.00.3.4", "1.2.3.04", "00.0.0.0", "000.0.0.0", "0.0.0.00", "1.2.3.256", "256.2.3.4", "1.300.3.4", "1.2.1000.4", "1.2.3.4294967296", "1.2.3.18446744073709551617", "1.2.3.99999999999999999999999",
		"+1.2.3.4", "-1.2.3.4", "1.2.3.-0", "1.2.3.+4", " 1.2.3.4", "1.2.3.4 ", "1. 2.3.4", "1.2.3.4\n", "\n1.2.3.4", "1.2.3.4\x00", "1.2.3.4/8", "a.b.c.d", "1.2.3.x", "0x1.2.3.4", "1.2.3.0x4", "1.2.3.1e1", "1.2.3.1_0", "1_0.2.3.4", "1,2,3,4", "1:2:3:4", "::1", "1.2.3.٤", "１.2.3.4", "localhost",
		strings.Repeat("0", 100000) + "1.2.3.4", strings.Repeat(".", 100000), strings.Repeat("1.", 100000),
	} {
		addrs.is(t, s, [4]byte{}, api.ErrAddr)
	}
}

// Each number that can be written in three digits and less, with noughts ahead and without, at each place.
func TestAddrAllNumbers(t *testing.T) {
	for n := range 1100 {
		for _, nought := range []string{"", "0", "00"} {
			for place := range 4 {
				words := []string{"9", "8", "7", "6"}
				words[place] = nought + strconv.Itoa(n)
				want, wantE := [4]byte{9, 8, 7, 6}, api.OK
				want[place] = byte(n)
				if n > 255 || nought != "" {
					want, wantE = [4]byte{}, api.ErrAddr
				}
				addrs.is(t, strings.Join(words, "."), want, wantE)
			}
		}
	}
}

func TestAddrAllBytes(t *testing.T) {
	for b := range 256 {
		for _, s := range []string{"10.0.0.255", "1.2.3.4"} {
			for at := range len(s) {
				addrs.hold(t, s[:at]+string([]byte{byte(b)})+s[at+1:])
				addrs.hold(t, s[:at]+string([]byte{byte(b)})+s[at:])
			}
		}
	}
}

// goodNode, goodService and goodCheck are valid; wrong ways to fill each part follow below.
func goodNode() api.Node { return api.Node{Name: "N1", Addr: "10.0.0.1", Made: 5, Changed: 6} }

func goodService() api.Service {
	return api.Service{Node: "N1", Id: "W1", Name: "Web", Port: 80, Tags: []string{"x", "B", "X"}, Made: 5, Changed: 6}
}

func goodCheck() api.Check {
	return api.Check{Node: "N1", Id: "C1", Service: "W1", Status: api.Warning, Note: "All Well ~", Made: 5, Changed: 6}
}

func TestFixNode(t *testing.T) {
	nodes.is(t, goodNode(), api.Node{Name: "n1", Addr: "10.0.0.1"}, api.OK)
	nodes.is(t, api.Node{}, api.Node{}, api.ErrLabel)
	for _, name := range []string{"", "-", "a.b", strings.Repeat("a", 64)} {
		for _, addr := range []string{"10.0.0.1", "", "10.0.0.256"} {
			nodes.is(t, api.Node{Name: name, Addr: addr, Made: 1}, api.Node{}, api.ErrLabel)
		}
	}
	for _, addr := range []string{"", "10.0.0", "010.0.0.1"} {
		nodes.is(t, api.Node{Name: "a", Addr: addr, Changed: 1}, api.Node{}, api.ErrAddr)
	}
	nodes.is(t, api.Node{Name: "A", Addr: "0.0.0.0", Made: math.MaxUint64, Changed: math.MaxUint64}, api.Node{Name: "a", Addr: "0.0.0.0"}, api.OK)
}

func TestFixService(t *testing.T) {
	good := api.Service{Node: "n1", Id: "w1", Name: "web", Port: 80, Tags: []string{"b", "x"}}
	services.is(t, goodService(), good, api.OK)
	services.is(t, good, good, api.OK)
	services.is(t, api.Service{}, api.Service{}, api.ErrLabel)
	for _, c := range []struct {
		spoil func(s *api.Service)
		want  api.Errno
	}{
		{func(s *api.Service) { s.Node = "" }, api.ErrLabel},
		{func(s *api.Service) { s.Node = "a b" }, api.ErrLabel},
		{func(s *api.Service) { s.Id = "" }, api.ErrLabel},
		{func(s *api.Service) { s.Id = "x-" }, api.ErrLabel},
		{func(s *api.Service) { s.Name = "" }, api.ErrLabel},
		{func(s *api.Service) { s.Name = "_" }, api.ErrLabel},
		{func(s *api.Service) { s.Port = 0 }, api.ErrPort},
		{func(s *api.Service) { s.Port = -1 }, api.ErrPort},
		{func(s *api.Service) { s.Port = -65535 }, api.ErrPort},
		{func(s *api.Service) { s.Port = 65536 }, api.ErrPort},
		{func(s *api.Service) { s.Port = 65536 + 80 }, api.ErrPort},
		{func(s *api.Service) { s.Port = math.MaxInt }, api.ErrPort},
		{func(s *api.Service) { s.Port = math.MinInt }, api.ErrPort},
		{func(s *api.Service) { s.Tags = []string{""} }, api.ErrTags},
		{func(s *api.Service) { s.Tags = []string{"a", "b", "c-"} }, api.ErrTags},
		{func(s *api.Service) { s.Tags = []string{strings.Repeat("a", 64)} }, api.ErrTags},
		{func(s *api.Service) { s.Tags = manyTags(17) }, api.ErrTags},
		{func(s *api.Service) { s.Tags = manyTags(10000) }, api.ErrTags},
	} {
		s := goodService()
		c.spoil(&s)
		services.is(t, s, api.Service{}, c.want)
	}
	for _, port := range []int{1, 2, 255, 256, 32768, 65534, 65535} {
		s, want := goodService(), good
		s.Port, want.Port = port, port
		services.is(t, s, want, api.OK)
	}
}

func manyTags(many int) []string {
	var tags []string
	for i := range many {
		tags = append(tags, "t"+strconv.Itoa(i))
	}
	return tags
}

func TestTags(t *testing.T) {
	for _, c := range []struct{ in, want []string }{
		{nil, nil},
		{[]string{}, nil},
		{[]string{"A"}, []string{"a"}},
		{[]string{"a", "a", "a"}, []string{"a"}},
		{[]string{"B", "a", "b", "A"}, []string{"a", "b"}},
		{[]string{"ab", "a", "a-b", "a0", "b"}, []string{"a", "a-b", "a0", "ab", "b"}},
		{[]string{"b", "10", "9"}, []string{"10", "9", "b"}},
		// The letters are made small ahead of the order: Z would stand ahead of a.
		{[]string{"Z", "a"}, []string{"a", "z"}},
		{manyTags(16), []string{"t0", "t1", "t10", "t11", "t12", "t13", "t14", "t15", "t2", "t3", "t4", "t5", "t6", "t7", "t8", "t9"}},
		{strings.Split(strings.Repeat("a", 16), ""), []string{"a"}},
	} {
		s, want := goodService(), api.Service{Node: "n1", Id: "w1", Name: "web", Port: 80, Tags: c.want}
		s.Tags = c.in
		services.is(t, s, want, api.OK)
	}
	// The tags are counted as they are given, alike ones too.
	s := goodService()
	s.Tags = strings.Split(strings.Repeat("a", 17), "")
	services.is(t, s, api.Service{}, api.ErrTags)
}

func TestFixCheck(t *testing.T) {
	good := api.Check{Node: "n1", Id: "c1", Service: "w1", Status: api.Warning, Note: "All Well ~"}
	checks.is(t, goodCheck(), good, api.OK)
	checks.is(t, good, good, api.OK)
	checks.is(t, api.Check{}, api.Check{}, api.ErrLabel)
	checks.is(t, api.Check{Node: "A", Id: "B", Status: 1, Changed: 7}, api.Check{Node: "a", Id: "b", Status: 1}, api.OK)
	for _, c := range []struct {
		spoil func(c *api.Check)
		want  api.Errno
	}{
		{func(c *api.Check) { c.Node = "" }, api.ErrLabel},
		{func(c *api.Check) { c.Node = "a/b" }, api.ErrLabel},
		{func(c *api.Check) { c.Id = "" }, api.ErrLabel},
		{func(c *api.Check) { c.Id = "-x" }, api.ErrLabel},
		{func(c *api.Check) { c.Service = " " }, api.ErrLabel},
		{func(c *api.Check) { c.Service = "-" }, api.ErrLabel},
		{func(c *api.Check) { c.Service = strings.Repeat("a", 64) }, api.ErrLabel},
		{func(c *api.Check) { c.Status = 0 }, api.ErrStatus},
		{func(c *api.Check) { c.Status = 4 }, api.ErrStatus},
		{func(c *api.Check) { c.Status = -1 }, api.ErrStatus},
		{func(c *api.Check) { c.Status = 257 }, api.ErrStatus},
		{func(c *api.Check) { c.Status = math.MaxInt }, api.ErrStatus},
		{func(c *api.Check) { c.Status = math.MinInt }, api.ErrStatus},
		{func(c *api.Check) { c.Note = "\n" }, api.ErrNote},
		{func(c *api.Check) { c.Note = "all is well\x7f" }, api.ErrNote},
		{func(c *api.Check) { c.Note = "ä" }, api.ErrNote},
		{func(c *api.Check) { c.Note = strings.Repeat("a", 201) }, api.ErrNote},
		{func(c *api.Check) { c.Note = strings.Repeat("a", 1<<20) }, api.ErrNote},
	} {
		k := goodCheck()
		c.spoil(&k)
		checks.is(t, k, api.Check{}, c.want)
	}
	for status := 1; status <= 3; status++ {
		c, want := goodCheck(), good
		c.Status, want.Status = status, status
		checks.is(t, c, want, api.OK)
	}
}

func TestNotes(t *testing.T) {
	for b := range 256 {
		one := string([]byte{byte(b)})
		for _, note := range []string{one, one + "x", "x" + one, "x" + one + "x", strings.Repeat("X", 199) + one} {
			want, wantE := api.Check{Node: "n", Id: "c", Status: 3, Note: note}, api.OK
			if b < 32 || b > 126 {
				want, wantE = api.Check{}, api.ErrNote
			}
			checks.is(t, api.Check{Node: "n", Id: "c", Status: 3, Note: note}, want, wantE)
		}
	}
	for many := range 260 {
		checks.hold(t, api.Check{Node: "n", Id: "c", Status: 3, Note: strings.Repeat(" ", many)})
	}
	keep := api.Check{Node: "n", Id: "c", Status: 3, Note: "  As It Stands  "}
	checks.is(t, keep, keep, api.OK)
}

// spoiled: does what the set has a bit for, the first one at last: so it is the first one's error that stays.
func spoiled(set int, spoils ...func()) {
	for bit, spoil := range slices.Backward(spoils) {
		if set&(1<<bit) != 0 {
			spoil()
		}
	}
}

// Each part of a record is right or wrong, in all ways: the first error in the promise's order is told, and nothing beside it.
func TestOrderOfErrors(t *testing.T) {
	for set := range 1 << 5 {
		n, want := goodNode(), api.OK
		spoiled(set&3,
			func() { n.Name, want = "-", api.ErrLabel },
			func() { n.Addr, want = "", api.ErrAddr })
		if _, e := FixNode(n); e != want {
			t.Errorf("FixNode(%#v): %d, not %d", n, e, want)
		}
		nodes.hold(t, n)
		s, want := goodService(), api.OK
		spoiled(set,
			func() { s.Node, want = "-", api.ErrLabel },
			func() { s.Id, want = "", api.ErrLabel },
			func() { s.Name, want = "a.b", api.ErrLabel },
			func() { s.Port, want = 0, api.ErrPort },
			func() { s.Tags, want = []string{"?"}, api.ErrTags })
		if _, e := FixService(s); e != want {
			t.Errorf("FixService(%#v): %d, not %d", s, e, want)
		}
		services.hold(t, s)
		c, want := goodCheck(), api.OK
		spoiled(set,
			func() { c.Node, want = "-", api.ErrLabel },
			func() { c.Id, want = "", api.ErrLabel },
			func() { c.Service, want = "a.b", api.ErrLabel },
			func() { c.Status, want = 0, api.ErrStatus },
			func() { c.Note, want = "\t", api.ErrNote })
		if _, e := FixCheck(c); e != want {
			t.Errorf("FixCheck(%#v): %d, not %d", c, e, want)
		}
		checks.hold(t, c)
	}
}

// fullOp: an operation in which every part is filled, and valid.
func fullOp(kind int) api.Op {
	return api.Op{Kind: kind, Node: goodNode(), Service: goodService(), Check: goodCheck(), Cas: true, Want: 9}
}

func TestFixOp(t *testing.T) {
	node := api.Node{Name: "n1", Addr: "10.0.0.1"}
	service := api.Service{Node: "n1", Id: "w1", Name: "web", Port: 80, Tags: []string{"b", "x"}}
	check := api.Check{Node: "n1", Id: "c1", Service: "w1", Status: api.Warning, Note: "All Well ~"}
	for _, want := range []api.Op{
		{Kind: api.OpNode, Node: node},
		{Kind: api.OpService, Service: service},
		{Kind: api.OpCheck, Check: check},
		{Kind: api.DropNode, Node: api.Node{Name: "n1"}},
		{Kind: api.DropService, Service: api.Service{Node: "n1", Id: "w1"}},
		{Kind: api.DropCheck, Check: api.Check{Node: "n1", Id: "c1"}},
	} {
		o := fullOp(want.Kind)
		want.Cas, want.Want = true, 9
		ops.is(t, o, want, api.OK)
		ops.is(t, want, want, api.OK)
		o.Want, want.Want = 0, 0
		ops.is(t, o, want, api.OK)
		o.Want, want.Want = math.MaxUint64, math.MaxUint64
		ops.is(t, o, want, api.OK)
		// Without Cas a Want isn't used.
		o.Cas, want.Cas, want.Want = false, false, 0
		ops.is(t, o, want, api.OK)
	}
	for _, kind := range []int{math.MinInt, -1, 0, 7, 8, 257, 1 << 32, 1<<32 + 1, math.MaxInt} {
		ops.is(t, fullOp(kind), api.Op{}, api.ErrOp)
		ops.is(t, api.Op{Kind: kind}, api.Op{}, api.ErrOp)
	}
}

// What a kind doesn't use may be as wrong as it likes.
func TestUnusedParts(t *testing.T) {
	badNode := api.Node{Name: "-", Addr: "?"}
	badService := api.Service{Node: "-", Id: "-", Name: "-", Port: -1, Tags: []string{"-"}}
	badCheck := api.Check{Node: "-", Id: "-", Service: "-", Status: 9, Note: "\n"}
	for kind := api.OpNode; kind <= api.DropCheck; kind++ {
		o := fullOp(kind)
		want, e := FixOp(o)
		if e != api.OK {
			t.Fatal(kind, e)
		}
		switch kind {
		case api.OpNode, api.DropNode:
			o.Service, o.Check = badService, badCheck
		case api.OpService, api.DropService:
			o.Node, o.Check = badNode, badCheck
		case api.OpCheck, api.DropCheck:
			o.Node, o.Service = badNode, badService
		}
		ops.is(t, o, want, api.OK)
	}
	ops.is(t, api.Op{Kind: api.DropNode, Node: api.Node{Name: "A", Addr: "?"}}, api.Op{Kind: api.DropNode, Node: api.Node{Name: "a"}}, api.OK)
	s := badService
	s.Node, s.Id = "A", "B"
	ops.is(t, api.Op{Kind: api.DropService, Service: s}, api.Op{Kind: api.DropService, Service: api.Service{Node: "a", Id: "b"}}, api.OK)
	c := badCheck
	c.Node, c.Id = "A", "B"
	ops.is(t, api.Op{Kind: api.DropCheck, Check: c}, api.Op{Kind: api.DropCheck, Check: api.Check{Node: "a", Id: "b"}}, api.OK)
}

func TestOpErrors(t *testing.T) {
	for _, c := range []struct {
		kind  int
		spoil func(o *api.Op)
		want  api.Errno
	}{
		{api.OpNode, func(o *api.Op) { o.Node.Name, o.Node.Addr = "-", "" }, api.ErrLabel},
		{api.OpNode, func(o *api.Op) { o.Node.Addr = "" }, api.ErrAddr},
		{api.OpService, func(o *api.Op) { o.Service.Name, o.Service.Port = "", 0 }, api.ErrLabel},
		{api.OpService, func(o *api.Op) { o.Service.Port, o.Service.Tags = 0, []string{""} }, api.ErrPort},
		{api.OpService, func(o *api.Op) { o.Service.Tags = manyTags(17) }, api.ErrTags},
		{api.OpCheck, func(o *api.Op) { o.Check.Service, o.Check.Status = "-", 0 }, api.ErrLabel},
		{api.OpCheck, func(o *api.Op) { o.Check.Status, o.Check.Note = 0, "\n" }, api.ErrStatus},
		{api.OpCheck, func(o *api.Op) { o.Check.Note = "\n" }, api.ErrNote},
		{api.DropNode, func(o *api.Op) { o.Node.Name = "" }, api.ErrLabel},
		{api.DropService, func(o *api.Op) { o.Service.Node = "" }, api.ErrLabel},
		{api.DropService, func(o *api.Op) { o.Service.Id = "a." }, api.ErrLabel},
		{api.DropCheck, func(o *api.Op) { o.Check.Node = "-" }, api.ErrLabel},
		{api.DropCheck, func(o *api.Op) { o.Check.Id = "" }, api.ErrLabel},
		{0, func(o *api.Op) { o.Node.Name, o.Service.Node, o.Check.Node = "", "", "" }, api.ErrOp},
	} {
		for _, cas := range []bool{false, true} {
			o := fullOp(c.kind)
			o.Cas = cas
			c.spoil(&o)
			ops.is(t, o, api.Op{}, c.want)
		}
	}
}

// dice makes records whose parts are right more often than not.
type dice struct{ *rand.Rand }

func (g dice) pick(words ...string) string { return words[g.Intn(len(words))] }

func (g dice) label() string {
	if g.Intn(12) == 0 {
		return g.pick("", "-", "a-", "-a", "a_", "ä", strings.Repeat("a", 64), "a\x00b")
	}
	return g.pick("a", "B", "Web-1", "0", "x--y", strings.Repeat("Q", 63))
}

func (g dice) tags() []string {
	many := g.Intn(4)
	if g.Intn(8) == 0 {
		many = 15 + g.Intn(3)
	}
	var tags []string
	for range many {
		tags = append(tags, g.pick("a", "B", "b", "A", "c-1", "0", "zz", "Zz"))
	}
	if many > 0 && g.Intn(8) == 0 {
		tags[g.Intn(many)] = g.label()
	}
	return tags
}

func (g dice) node() api.Node {
	addr := g.pick("10.0.0.1", "0.0.0.0", "255.255.255.255", "1.2.3.4", "10.0.0.256", "1.2.3")
	return api.Node{Name: g.label(), Addr: addr, Made: g.Uint64(), Changed: g.Uint64()}
}

func (g dice) service() api.Service {
	ports := []int{1, 80, 65535, 443, 8080, 0, -1, 65536}
	return api.Service{Node: g.label(), Id: g.label(), Name: g.label(), Port: ports[g.Intn(len(ports))], Tags: g.tags(), Made: g.Uint64(), Changed: g.Uint64()}
}

func (g dice) check() api.Check {
	service := ""
	if g.Intn(2) == 0 {
		service = g.label()
	}
	note := g.pick("", "well", " ~", strings.Repeat("n", 200), strings.Repeat("n", 201), "a\tb", "\xc3")
	return api.Check{Node: g.label(), Id: g.label(), Service: service, Status: g.Intn(5), Note: note, Made: g.Uint64(), Changed: g.Uint64()}
}

func (g dice) op() api.Op {
	return api.Op{Kind: g.Intn(8), Node: g.node(), Service: g.service(), Check: g.check(), Cas: g.Intn(2) == 0, Want: g.Uint64()}
}

func TestRandomOps(t *testing.T) {
	g := dice{rand.New(rand.NewSource(9))}
	seen := map[api.Errno]int{}
	for range 40000 {
		o := g.op()
		if !ops.hold(t, o) || !nodes.hold(t, o.Node) || !services.hold(t, o.Service) || !checks.hold(t, o.Check) {
			return
		}
		fixed, e := FixOp(o)
		seen[e]++
		if e != api.OK {
			continue
		}
		// The normal form's normal form is itself.
		if !ops.answers(t, fixed, fixed, api.OK) {
			return
		}
	}
	for e := api.ErrLabel; e <= api.ErrOp; e++ {
		if seen[e] < 100 {
			t.Errorf("error %d came %d times", e, seen[e])
		}
	}
	if seen[api.OK] < 5000 {
		t.Errorf("OK came %d times", seen[api.OK])
	}
}

func TestArgumentsStay(t *testing.T) {
	room := []string{"Z", "b", "B", "a", "Spare", "Room"}
	before := slices.Clone(room)
	s := goodService()
	s.Tags = room[:4]
	o := fullOp(api.OpService)
	o.Service = s
	FixService(s)
	FixOp(o)
	ServiceRow(s)
	if !slices.Equal(room, before) {
		t.Errorf("%q", room)
	}
	for _, bad := range [][]string{{"Z", "b", "", "a"}, manyTags(20)} {
		was := slices.Clone(bad)
		s.Tags = bad
		FixService(s)
		if !slices.Equal(bad, was) {
			t.Errorf("%q", bad)
		}
	}
}

// text: a text that lies in memory that is written over later.
func text(room []byte) string { return unsafe.String(&room[0], len(room)) }

// Nothing of the arguments is in an answer: they may be written over behind the call.
func TestNothingIsShared(t *testing.T) {
	label, addr, note := []byte("web"), []byte("10.0.0.1"), []byte("well")
	tags := []string{text(label)}
	low, _ := Label(text(label))
	node, _ := FixNode(api.Node{Name: text(label), Addr: text(addr)})
	service, _ := FixService(api.Service{Node: text(label), Id: text(label), Name: text(label), Port: 1, Tags: tags})
	check, _ := FixCheck(api.Check{Node: text(label), Id: text(label), Service: text(label), Status: 1, Note: text(note)})
	nodeOp, _ := FixOp(api.Op{Kind: api.OpNode, Node: api.Node{Name: text(label), Addr: text(addr)}})
	drop, _ := FixOp(api.Op{Kind: api.DropCheck, Check: api.Check{Node: text(label), Id: text(label)}})
	nodeRow := NodeRow(api.Node{Name: text(label), Addr: text(addr)})
	serviceRow := ServiceRow(api.Service{Node: text(label), Id: text(label), Name: text(label), Port: 1, Tags: tags})
	checkRow := CheckRow(api.Check{Node: text(label), Id: text(label), Service: text(label), Status: 1, Note: text(note)})
	row := api.Row{Cells: []api.Cell{{Text: text(label)}, {Text: text(label)}, {Text: text(label)}, {Num: 1}, {Text: text(note), List: tags}}}
	nodeOf, serviceOf, checkOf := RowNode(row), RowService(row), RowCheck(row)
	copy(label, "***")
	copy(addr, "********")
	copy(note, "****")
	tags[0] = "over"
	if low != "web" {
		t.Error(low)
	}
	if want := (api.Node{Name: "web", Addr: "10.0.0.1"}); node != want || nodeOp.Node != want || RowNode(nodeRow) != want {
		t.Error(node, nodeOp.Node, RowNode(nodeRow))
	}
	if want := (api.Service{Node: "web", Id: "web", Name: "web", Port: 1, Tags: []string{"web"}}); !sameService(service, want) || !sameService(RowService(serviceRow), want) || !sameService(serviceOf, want) {
		t.Error(service, RowService(serviceRow), serviceOf)
	}
	if want := (api.Check{Node: "web", Id: "web", Service: "web", Status: 1, Note: "well"}); check != want || RowCheck(checkRow) != want || checkOf != want {
		t.Error(check, RowCheck(checkRow), checkOf)
	}
	if drop.Check != (api.Check{Node: "web", Id: "web"}) || nodeOf.Name != "web" {
		t.Error(drop, nodeOf)
	}
}

// An answer may be written over, with all its spare room: arguments and other answers stay.
func TestAnswersAreNew(t *testing.T) {
	over := func(list []string) {
		list = list[:cap(list)]
		for i := range list {
			list[i] = "over"
		}
	}
	s := api.Service{Node: "n", Id: "i", Name: "w", Port: 1, Tags: append(make([]string, 0, 9), "a", "b")}
	was := slices.Clone(s.Tags[:cap(s.Tags)])
	first, _ := FixService(s)
	second, _ := FixService(s)
	row := ServiceRow(s)
	back := RowService(row)
	op, _ := FixOp(api.Op{Kind: api.OpService, Service: s})
	answers := [][]string{first.Tags, second.Tags, row.Cells[serviceTags].List, back.Tags, op.Service.Tags}
	for i, list := range answers {
		if !slices.Equal(list, []string{"a", "b"}) {
			t.Errorf("answer %d: %q", i, list)
		}
		over(list)
	}
	if !slices.Equal(s.Tags[:cap(s.Tags)], was) {
		t.Errorf("%q", s.Tags[:cap(s.Tags)])
	}
	cells := ServiceRow(s).Cells
	for i := range cells[:cap(cells)] {
		cells[:cap(cells)][i] = api.Cell{Text: "over"}
	}
	if again := RowService(ServiceRow(s)); !sameService(again, s) {
		t.Errorf("%#v", again)
	}
}
