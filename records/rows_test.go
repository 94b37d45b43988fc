package records

import (
	"math"
	"math/rand"
	"slices"
	"strings"
	"testing"

	"muster/api"
	"muster/rows"
	"muster/schema"
	"muster/store"
)

func TestSchema(t *testing.T) {
	want := strings.Join([]string{
		"table nodes",
		"field name text",
		"field addr text",
		"field made num",
		"field changed num",
		"index id name unique",
		"table services",
		"field node text",
		"field id text",
		"field name text",
		"field port num",
		"field tags list",
		"field made num",
		"field changed num",
		"index id node,id unique",
		"index name name",
		"table checks",
		"field node text",
		"field id text",
		"field service text",
		"field status num",
		"field note text",
		"field made num",
		"field changed num",
		"index id node,id unique",
		"index service node,service loose",
		"index status status",
		"table marks",
		"field table text",
		"field value num",
		"index id table unique",
		"",
	}, "\n")
	if Schema() != want {
		t.Errorf("%q", Schema())
	}
	s, line, e := schema.Parse(Schema())
	if line != 0 || e != api.OK {
		t.Fatal(line, e)
	}
	if schema.Print(s) != Schema() {
		t.Errorf("%q", schema.Print(s))
	}
	if _, line, e := store.New(Schema()); line != 0 || e != api.OK {
		t.Error(line, e)
	}
}

// tableOf: the table of that name of the schema.
func tableOf(t *testing.T, name string) api.Table {
	t.Helper()
	s, _, e := schema.Parse(Schema())
	at := slices.IndexFunc(s.Tables, func(q api.Table) bool { return q.Name == name })
	if e != api.OK || at < 0 {
		t.Fatal(name, e)
	}
	return s.Tables[at]
}

func sameCell(a, b api.Cell) bool {
	return a.Text == b.Text && a.Num == b.Num && slices.Equal(a.List, b.List)
}

// isRow: has the row a cell for each field of the table, each by the name of its field?
func isRow(t *testing.T, table string, r api.Row, want map[string]api.Cell) {
	t.Helper()
	fields := tableOf(t, table).Fields
	if len(r.Cells) != len(fields) || len(want) != len(fields) {
		t.Errorf("%s: %d cells, %d fields", table, len(r.Cells), len(fields))
		return
	}
	for i, f := range fields {
		if !sameCell(r.Cells[i], want[f.Name]) {
			t.Errorf("%s.%s = %#v, not %#v", table, f.Name, r.Cells[i], want[f.Name])
		}
	}
}

// minus: the 64 bits of the number.
func minus(n int64) uint64 { return uint64(n) }

func TestNodeRow(t *testing.T) {
	isRow(t, "nodes", NodeRow(api.Node{Name: "N", Addr: "?", Made: 3, Changed: math.MaxUint64}), map[string]api.Cell{
		"name": {Text: "N"}, "addr": {Text: "?"}, "made": {Num: 3}, "changed": {Num: math.MaxUint64},
	})
	isRow(t, "nodes", NodeRow(api.Node{}), map[string]api.Cell{"name": {}, "addr": {}, "made": {}, "changed": {}})
}

func TestServiceRow(t *testing.T) {
	s := api.Service{Node: "n", Id: "i", Name: "W", Port: 80, Tags: []string{"b", "A", "b"}, Made: 3, Changed: 4}
	want := map[string]api.Cell{
		"node": {Text: "n"}, "id": {Text: "i"}, "name": {Text: "W"}, "port": {Num: 80}, "tags": {List: []string{"b", "A", "b"}}, "made": {Num: 3}, "changed": {Num: 4},
	}
	isRow(t, "services", ServiceRow(s), want)
	s.Port, want["port"] = -1, api.Cell{Num: math.MaxUint64}
	isRow(t, "services", ServiceRow(s), want)
	s.Port, want["port"] = math.MinInt64, api.Cell{Num: 1 << 63}
	isRow(t, "services", ServiceRow(s), want)
}

func TestCheckRow(t *testing.T) {
	c := api.Check{Node: "n", Id: "i", Service: "s", Status: 3, Note: "x", Made: 5, Changed: 6}
	want := map[string]api.Cell{
		"node": {Text: "n"}, "id": {Text: "i"}, "service": {Text: "s"}, "status": {Num: 3}, "note": {Text: "x"}, "made": {Num: 5}, "changed": {Num: 6},
	}
	isRow(t, "checks", CheckRow(c), want)
	c.Status, want["status"] = -2, api.Cell{Num: minus(-2)}
	isRow(t, "checks", CheckRow(c), want)
}

// wild: any bytes, any numbers: what no Fix call would let through.
func (g dice) wild() string {
	b := make([]byte, g.Intn(5))
	g.Read(b)
	return string(b)
}

func (g dice) wildNumber() int {
	numbers := []int{0, 1, 3, -1, 65535, 65536, math.MaxInt, math.MinInt, math.MaxInt32, math.MinInt32, int(g.Uint64())}
	return numbers[g.Intn(len(numbers))]
}

func TestThereAndBack(t *testing.T) {
	g := dice{rand.New(rand.NewSource(10))}
	for range 20000 {
		n := api.Node{Name: g.wild(), Addr: g.wild(), Made: g.Uint64(), Changed: g.Uint64()}
		if back := RowNode(NodeRow(n)); back != n {
			t.Fatalf("%#v, not %#v", back, n)
		}
		s := api.Service{Node: g.wild(), Id: g.wild(), Name: g.wild(), Port: g.wildNumber(), Made: g.Uint64(), Changed: g.Uint64()}
		for range g.Intn(40) {
			s.Tags = append(s.Tags, g.wild())
		}
		if back := RowService(ServiceRow(s)); !sameService(back, s) {
			t.Fatalf("%#v, not %#v", back, s)
		}
		c := api.Check{Node: g.wild(), Id: g.wild(), Service: g.wild(), Status: g.wildNumber(), Note: g.wild(), Made: g.Uint64(), Changed: g.Uint64()}
		if back := RowCheck(CheckRow(c)); back != c {
			t.Fatalf("%#v, not %#v", back, c)
		}
	}
}

// fullRow: many cells with all parts filled, each by its place.
func fullRow(many int) api.Row {
	var r api.Row
	for i := range many {
		name := string(rune('a' + i))
		r.Cells = append(r.Cells, api.Cell{Text: name, Num: uint64(i + 1), List: []string{name, "l"}})
	}
	return r
}

// Parts that a field's kind doesn't use are not looked at, nor cells behind the table's last field; cells that lack are empty ones.
func TestRowsOfAllLengths(t *testing.T) {
	text := func(many, place int) string {
		if place >= many {
			return ""
		}
		return string(rune('a' + place))
	}
	num := func(many, place int) uint64 {
		if place >= many {
			return 0
		}
		return uint64(place + 1)
	}
	for many := range 12 {
		r := fullRow(many)
		if n, want := RowNode(r), (api.Node{Name: text(many, 0), Addr: text(many, 1), Made: num(many, 2), Changed: num(many, 3)}); n != want {
			t.Errorf("%d cells: %#v, not %#v", many, n, want)
		}
		want := api.Service{Node: text(many, 0), Id: text(many, 1), Name: text(many, 2), Port: int(num(many, 3)), Made: num(many, 5), Changed: num(many, 6)}
		if many > 4 {
			want.Tags = []string{"e", "l"}
		}
		if s := RowService(r); !sameService(s, want) {
			t.Errorf("%d cells: %#v, not %#v", many, s, want)
		}
		if c, want := RowCheck(r), (api.Check{Node: text(many, 0), Id: text(many, 1), Service: text(many, 2), Status: int(num(many, 3)), Note: text(many, 4), Made: num(many, 5), Changed: num(many, 6)}); c != want {
			t.Errorf("%d cells: %#v, not %#v", many, c, want)
		}
	}
	if s := RowService(api.Row{Cells: []api.Cell{3: {Num: math.MaxUint64}}}); s.Port != -1 {
		t.Error(s.Port)
	}
	if c := RowCheck(api.Row{Cells: []api.Cell{3: {Num: 1 << 63}}}); c.Status != math.MinInt64 {
		t.Error(c.Status)
	}
}

// The row of a record in normal form fits its table.
func TestRowsFit(t *testing.T) {
	g := dice{rand.New(rand.NewSource(11))}
	nodeTable, serviceTable, checkTable := tableOf(t, "nodes"), tableOf(t, "services"), tableOf(t, "checks")
	for range 5000 {
		if n, e := FixNode(g.node()); e == api.OK && rows.Fit(nodeTable, NodeRow(n)) != api.OK {
			t.Fatalf("%#v", n)
		}
		if s, e := FixService(g.service()); e == api.OK && rows.Fit(serviceTable, ServiceRow(s)) != api.OK {
			t.Fatalf("%#v", s)
		}
		if c, e := FixCheck(g.check()); e == api.OK && rows.Fit(checkTable, CheckRow(c)) != api.OK {
			t.Fatalf("%#v", c)
		}
	}
}

// A store with the schema keeps the records and finds them by each index.
func TestInAStore(t *testing.T) {
	kept, _, e := store.New(Schema())
	if e != api.OK {
		t.Fatal(e)
	}
	w, _ := kept.Begin()
	n, _ := FixNode(goodNode())
	s, _ := FixService(goodService())
	c, _ := FixCheck(goodCheck())
	for table, r := range map[string]api.Row{"nodes": NodeRow(n), "services": ServiceRow(s), "checks": CheckRow(c)} {
		if _, _, e := w.Put(table, r); e != api.OK {
			t.Error(table, e)
		}
	}
	w.Commit()
	part := func(s string) api.Part { return api.Part{Kind: api.PartText, Text: s} }
	find := func(table, index string, parts ...api.Part) api.Row {
		r, ok, _, e := kept.View().First(table, index, parts)
		if !ok || e != api.OK {
			t.Error(table, index, ok, e)
		}
		return r
	}
	if back := RowNode(find("nodes", "id", part("n1"))); back != n {
		t.Errorf("%#v", back)
	}
	for _, r := range []api.Row{find("services", "id", part("n1"), part("w1")), find("services", "name", part("web"))} {
		if back := RowService(r); !sameService(back, s) {
			t.Errorf("%#v", back)
		}
	}
	status := api.Part{Kind: api.PartNum, Num: uint64(api.Warning)}
	for _, r := range []api.Row{find("checks", "id", part("n1"), part("c1")), find("checks", "service", part("n1"), part("w1")), find("checks", "status", status)} {
		if back := RowCheck(r); back != c {
			t.Errorf("%#v", back)
		}
	}
}
