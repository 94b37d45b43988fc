package schema

import (
	"math/rand"
	"reflect"
	"slices"
	"strconv"
	"strings"
	"testing"
	"unsafe"

	"muster/api"
)

// same: do two schemas say the same? An empty list and none are one.
func same(a, b api.Schema) bool {
	return slices.EqualFunc(a.Tables, b.Tables, func(t, u api.Table) bool {
		return t.Name == u.Name && slices.Equal(t.Fields, u.Fields) && slices.EqualFunc(t.Indexes, u.Indexes, func(x, y api.Index) bool {
			return x.Name == y.Name && slices.Equal(x.Over, y.Over) && x.Unique == y.Unique && x.Lower == y.Lower && x.Loose == y.Loose
		})
	})
}

// hold: holds Parse of the text, and Print of what it gives, against the model.
func hold(t *testing.T, text string) bool {
	t.Helper()
	s, line, e := Parse(text)
	want, wantLine, wantE := modelParse(text)
	if !same(s, want) || line != wantLine || e != wantE {
		t.Errorf("Parse(%q) = %v, %d, %d, not %v, %d, %d", text, s, line, e, want, wantLine, wantE)
		return false
	}
	if e != api.OK {
		return true
	}
	again := Print(s)
	if again != modelPrint(text) {
		t.Errorf("Print behind Parse(%q) = %q", text, again)
		return false
	}
	if len(again) > api.MaxText {
		return true
	}
	if u, line, e := Parse(again); !same(u, s) || line != 0 || e != api.OK {
		t.Errorf("Parse(%q) = %v, %d, %d", again, u, line, e)
		return false
	}
	return true
}

// refused: is the text refused at that line, with that error, and does the model say so?
func refused(t *testing.T, text string, line int, e api.Errno) {
	t.Helper()
	if s, l, got := Parse(text); len(s.Tables) != 0 || l != line || got != e {
		t.Errorf("Parse(%q) = %v, %d, %d, not %d, %d", text, s, l, got, line, e)
	}
	hold(t, text)
}

// taken: is the text taken, and does the model say so?
func taken(t *testing.T, text string) {
	t.Helper()
	if _, l, e := Parse(text); l != 0 || e != api.OK {
		t.Errorf("Parse(%q) = %d, %d", text, l, e)
	}
	hold(t, text)
}

// numbered: so many texts, each the front with a number behind it and then the back.
func numbered(front string, many int, back string) string {
	var out string
	for i := range many {
		out += front + strconv.Itoa(i) + back
	}
	return out
}

func TestNumbers(t *testing.T) {
	errs := []api.Errno{api.ErrTextLong, api.ErrWord, api.ErrName, api.ErrPlace, api.ErrTwice, api.ErrMany, api.ErrNoField, api.ErrIndex, api.ErrBare}
	for i, e := range errs {
		if e != api.Errno(60+i) {
			t.Errorf("error %d is %d", 60+i, e)
		}
	}
	got := []int{api.MaxText, api.MaxName, api.MaxTables, api.MaxFields, api.MaxIndexes, api.MaxOver, api.FieldText, api.FieldNum, api.FieldList}
	if want := []int{8192, 32, 16, 16, 8, 4, 1, 2, 3}; !slices.Equal(got, want) {
		t.Errorf("%v", got)
	}
}

func TestChapterExamples(t *testing.T) {
	s, line, e := Parse("table a\nfield x text\nindex id x unique\n")
	want := api.Schema{Tables: []api.Table{{
		Name:    "a",
		Fields:  []api.Field{{Name: "x", Kind: api.FieldText}},
		Indexes: []api.Index{{Name: "id", Over: []int{0}, Unique: true}},
	}}}
	if !same(s, want) || line != 0 || e != api.OK {
		t.Errorf("%v, %d, %d", s, line, e)
	}
	refused(t, "table a\n\nfield x int", 3, api.ErrWord)
	refused(t, "table a\ntable b", 1, api.ErrBare)
	refused(t, "field x text", 1, api.ErrPlace)
	refused(t, "table ", 1, api.ErrName)
	refused(t, "field  text", 1, api.ErrName)
	refused(t, "index x  unique", 1, api.ErrName)
	refused(t, "table a ", 1, api.ErrWord)
	refused(t, "table a\nfield x list\nindex id x unique", 3, api.ErrIndex)
}

const whole = `

table nodes
field name text

field addr2 num
field tags list
index id name unique
index tag tags,name lower loose
index addr2 addr2,tags,name

table b
field name num
field nodes text
index id nodes,name unique lower
index name name unique loose
index nodes nodes unique lower loose
index low nodes lower
index loose nodes loose
index none nodes`

func wholeSchema() api.Schema {
	return api.Schema{Tables: []api.Table{
		{
			Name:   "nodes",
			Fields: []api.Field{{Name: "name", Kind: 1}, {Name: "addr2", Kind: 2}, {Name: "tags", Kind: 3}},
			Indexes: []api.Index{
				{Name: "id", Over: []int{0}, Unique: true},
				{Name: "tag", Over: []int{2, 0}, Lower: true, Loose: true},
				{Name: "addr2", Over: []int{1, 2, 0}},
			},
		},
		{
			Name:   "b",
			Fields: []api.Field{{Name: "name", Kind: 2}, {Name: "nodes", Kind: 1}},
			Indexes: []api.Index{
				{Name: "id", Over: []int{1, 0}, Unique: true, Lower: true},
				{Name: "name", Over: []int{0}, Unique: true, Loose: true},
				{Name: "nodes", Over: []int{1}, Unique: true, Lower: true, Loose: true},
				{Name: "low", Over: []int{1}, Lower: true},
				{Name: "loose", Over: []int{1}, Loose: true},
				{Name: "none", Over: []int{1}},
			},
		},
	}}
}

func TestWhole(t *testing.T) {
	s, line, e := Parse(whole)
	if want := wholeSchema(); !same(s, want) || line != 0 || e != api.OK {
		t.Errorf("%v, %d, %d", s, line, e)
	}
	hold(t, whole)
	hold(t, whole+"\n")
	hold(t, whole+"\n\n\n")
	want := strings.ReplaceAll(strings.TrimPrefix(whole, "\n\n"), "\n\n", "\n") + "\n"
	if got := Print(wholeSchema()); got != want {
		t.Errorf("Print = %q", got)
	}
}

func TestNoTable(t *testing.T) {
	for _, text := range []string{"", "\n", "\n\n\n", strings.Repeat("\n", api.MaxText)} {
		if s, line, e := Parse(text); len(s.Tables) != 0 || line != 0 || e != api.OK || Print(s) != "" {
			t.Errorf("Parse(%q) = %v, %d, %d", text, s, line, e)
		}
	}
	if got := Print(api.Schema{}); got != "" {
		t.Errorf("Print = %q", got)
	}
}

const (
	fields = "table a\nfield x text\nfield n num\nfield l list\nfield m list\n" // five lines
	start  = fields + "index id x unique\n"                                     // six lines
)

func TestWords(t *testing.T) {
	for _, line := range []string{
		" ", "  ", "\r", "\t", "\x00", "a", "tables a", "Table a", "TABLE a", "tabl a", " table a", "\ttable a",
		"table", "table a ", "table  a", "table a b", "table  ", "table a table b", "table\ta", "table\r",
		"field", "field ", "field x", "field x ", "field x  text", "field  x text", "field x text ", "field x text text", "field x text unique", " field x text",
		"field x int", "field x Text", "field x texts", "field x tex", "field x text\r", "field x text,num", "field x \xff", "field x ,",
		"index", "index ", "index k",
		"index k x ", "index k x  ", "index k x  unique", "index k x unique ", "index k  x", "index k x x", "index k x, n",
		"index k x Unique", "index k x uniq", "index k x unique\r", "index k x unique,lower", "index k x other",
		"index k x unique unique", "index k x lower lower", "index k x loose loose",
		"index k x lower unique", "index k x loose unique", "index k x loose lower", "index k x unique loose lower", "index k x unique lower loose loose", "index k x unique lower loose unique", "index k x unique lower loose ",
		"index k x unique  lower",
	} {
		refused(t, line, 1, api.ErrWord)
		refused(t, start+"\n"+line, 8, api.ErrWord)
		refused(t, start+line+"\nrubbish", 7, api.ErrWord)
	}
}

func TestNames(t *testing.T) {
	for _, name := range []string{
		"", "A", "aB", "0", "0a", "9", "-", "a-b", "a_b", "a.b", "a\r", "\ra", "a\t", "a\x00", "\x00", "a\x7f", "\xff", "a\xff", "ä", "a{", "a`", "`", "{", "a/", "a:", "/", ":", "a@", "a[",
		strings.Repeat("a", 33), "a" + strings.Repeat("0", 32), strings.Repeat("a", 300),
	} {
		refused(t, "table "+name, 1, api.ErrName)
		refused(t, start+"table "+name, 7, api.ErrName)
		refused(t, fields+"field "+name+" num", 6, api.ErrName)
		refused(t, fields+"index "+name+" x unique", 6, api.ErrName)
		refused(t, start+"index k "+name, 7, api.ErrName)
		refused(t, start+"index k x,"+name, 7, api.ErrName)
		refused(t, start+"index k "+name+",x", 7, api.ErrName)
		refused(t, start+"index k x,"+name+",n", 7, api.ErrName)
	}
	// An empty word is a word, too: these lines have enough of them.
	for _, line := range []string{"table ", "field  text", "index  ", "index  x", "index x ", "index  ,", "index x  unique"} {
		refused(t, line, 1, api.ErrName)
	}
	for _, list := range []string{"", ",", ",x", "x,", "x,,n", ",,,,,,"} {
		refused(t, start+"index k "+list, 7, api.ErrName)
		refused(t, start+"index k "+list+" lower", 7, api.ErrName)
	}
	for _, name := range []string{"a", "z", "a0", "z9", "azaz0909", "table", "field", "index", "unique", "text", "id", strings.Repeat("z", 32), "q" + strings.Repeat("9", 31)} {
		taken(t, "table "+name+"\nfield "+name+" text\nindex id "+name+" unique")
		if name != "id" {
			taken(t, "table a\nfield x text\nfield "+name+" num\nindex id x unique\nindex "+name+" "+name)
		}
	}
	// A comma parts the fields of an index alone.
	refused(t, "table a,b", 1, api.ErrName)
	refused(t, start+"index k,x x", 7, api.ErrName)
}

func TestPlaces(t *testing.T) {
	refused(t, "\nfield x text", 2, api.ErrPlace)
	refused(t, "index id x unique", 1, api.ErrPlace)
	refused(t, "index k x", 1, api.ErrPlace)
	refused(t, "field x text\ntable a", 1, api.ErrPlace)
	refused(t, start+"field y text", 7, api.ErrPlace)
	refused(t, start+"\nfield y text\n", 8, api.ErrPlace)
	// Each table has fields of its own, ahead of its indexes.
	taken(t, start+"table b\nfield x text\nindex id x unique")
	refused(t, start+"table b\nfield x text\nindex id x unique\nfield y text", 10, api.ErrPlace)
}

func TestTwice(t *testing.T) {
	refused(t, start+"table a", 7, api.ErrTwice)
	refused(t, start+"table b\nfield x text\nindex id x unique\ntable a", 10, api.ErrTwice)
	refused(t, fields+"field x text", 6, api.ErrTwice)
	refused(t, fields+"field m num", 6, api.ErrTwice)
	refused(t, start+"index id x unique", 7, api.ErrTwice)
	refused(t, start+"index id n", 7, api.ErrTwice)
	refused(t, start+"index k n\nindex j n\nindex k x", 9, api.ErrTwice)
	refused(t, fields+"index id x,x unique", 6, api.ErrTwice)
	refused(t, start+"index k x,n,x", 7, api.ErrTwice)
	refused(t, start+"index k n,x,x", 7, api.ErrTwice)
	// One name for a table, a field and an index, and in two tables, is no fault.
	taken(t, "table a\nfield a text\nfield id num\nindex id a unique\nindex a id\ntable id\nfield a text\nfield id num\nindex id id,a unique\nindex a a")
	// Two indexes may go over the same fields.
	taken(t, start+"index k x,n\nindex j x,n")
}

func TestTables(t *testing.T) {
	const rest = "\nfield x text\nindex id x unique\n"
	taken(t, numbered("table t", 16, rest))
	refused(t, numbered("table t", 17, rest), 49, api.ErrMany)
	refused(t, numbered("table t", 16, rest)+"table t", 49, api.ErrMany)
	refused(t, numbered("table t", 16, rest)+"table t15", 49, api.ErrTwice)
	refused(t, numbered("table t", 16, rest)+"table T", 49, api.ErrName)
	refused(t, numbered("table t", 15, rest)+"table u\ntable v", 46, api.ErrBare)
	refused(t, numbered("table t", 15, rest)+"table u\nfield x text\n\ntable v", 46, api.ErrBare)
}

func TestFields(t *testing.T) {
	sixteen := "table a\n" + numbered("field f", 16, " text\n")
	taken(t, sixteen+"index id f15 unique")
	refused(t, sixteen+"field f16 text", 18, api.ErrMany)
	refused(t, sixteen+"field f0 text", 18, api.ErrTwice)
	refused(t, sixteen+"index id f15 unique\nfield f16 text", 19, api.ErrPlace)
	// The count begins anew with each table.
	taken(t, sixteen+"index id f15 unique\ntable b\n"+numbered("field f", 16, " num\n")+"index id f0 unique")
}

func TestIndexes(t *testing.T) {
	seven := numbered("index k", 7, " n\n")
	taken(t, start+seven)
	refused(t, start+seven+"index j n", 14, api.ErrMany)
	refused(t, start+seven+"index k6 n", 14, api.ErrTwice)
	refused(t, start+seven+"index j n,n", 14, api.ErrTwice)
	refused(t, start+seven+"index j q", 14, api.ErrMany)
	refused(t, start+seven+"index j l,m", 14, api.ErrMany)
	// The count begins anew with each table.
	taken(t, start+seven+strings.Replace(start, "table a", "table b", 1)+seven)
}

func TestOver(t *testing.T) {
	const five = "table a\nfield a text\nfield b num\nfield c text\nfield d num\nfield e text\n"
	taken(t, five+"index id e,c,a,b unique\nindex k d,c,b,a")
	refused(t, five+"index id a,b,c,d,e unique", 7, api.ErrMany)
	refused(t, five+"index id a,b,c,d,a unique", 7, api.ErrTwice)
	refused(t, five+"index id a,b,c,d,q unique", 7, api.ErrMany)
	refused(t, five+"index id a,b,c,q unique", 7, api.ErrNoField)
	refused(t, five+"index id a,b,c,d,E unique", 7, api.ErrName)
	refused(t, five+"index id a unique\nindex k a,b,c,d,e,f,g,h,i,j", 8, api.ErrMany)
	refused(t, five+"index id "+strings.Repeat("a,", 2000)+"a unique", 7, api.ErrTwice)
}

func TestNoField(t *testing.T) {
	refused(t, "table a\nindex id x unique", 2, api.ErrNoField)
	refused(t, fields+"index id y unique", 6, api.ErrNoField)
	refused(t, fields+"index id x,y unique", 6, api.ErrNoField)
	refused(t, fields+"index k y", 6, api.ErrNoField)
	refused(t, fields+"index k y,l,m", 6, api.ErrNoField)
	refused(t, start+"index k y", 7, api.ErrNoField)
	refused(t, start+"index k l,m,y", 7, api.ErrNoField)
	// A field of another table is none of this one's.
	refused(t, start+"table b\nfield y text\nindex id x unique", 9, api.ErrNoField)
	refused(t, fields+"index id y,y unique", 6, api.ErrTwice)
}

func TestIndexRules(t *testing.T) {
	for _, rest := range []string{
		"k x unique", "idd x unique", "i x unique", // the name
		"id x", "id x lower", // unique
		"id x unique loose", "id x unique lower loose", "id x loose", // loose
		"id l unique", "id x,l unique", "id l,m unique", // lists
	} {
		refused(t, fields+"index "+rest, 6, api.ErrIndex)
	}
	for _, rest := range []string{"k l,m", "k l,x,m", "k m,l,x,n unique lower loose"} {
		refused(t, start+"index "+rest, 7, api.ErrIndex)
	}
	for _, rest := range []string{"k l", "k x,m", "k x loose", "k x", "k l,x unique", "k l,n unique lower loose"} {
		taken(t, start+"index "+rest)
	}
	taken(t, fields+"index id n unique")
	taken(t, fields+"index id n,x unique lower")
	// The first index of every table is asked, not that of the first one alone.
	refused(t, start+"table b\nfield x text\nindex k x unique", 9, api.ErrIndex)
}

func TestBare(t *testing.T) {
	refused(t, "table a", 1, api.ErrBare)
	refused(t, "\n\ntable a\n\n", 3, api.ErrBare)
	refused(t, fields, 1, api.ErrBare)
	refused(t, start+"\ntable b", 8, api.ErrBare)
	refused(t, start+"table b\nfield x text\n", 7, api.ErrBare)
	refused(t, "\ntable a\nfield x text\ntable b\nfield x text\nindex id x unique", 2, api.ErrBare)
	// Ahead of what is told of the next table's line, but for its words and names.
	refused(t, "table a\ntable a", 1, api.ErrBare)
	refused(t, "table a\n\ntable b c", 3, api.ErrWord)
	refused(t, "table a\ntable", 2, api.ErrWord)
	refused(t, "table a\ntable ", 2, api.ErrName)
	refused(t, "table a\ntable B", 2, api.ErrName)
	// Behind what is told of the lines between.
	refused(t, "table a\nfield x int\ntable b", 2, api.ErrWord)
	refused(t, "table a\nindex id x unique\ntable b", 2, api.ErrNoField)
	refused(t, "table a\nrubbish", 2, api.ErrWord)
	refused(t, "table a\ntable b\nrubbish", 1, api.ErrBare)
}

// stretched: a text of sixteen tables, without a line feed at its end; so many bytes are spent on longer names.
func stretched(by int) string {
	var text string
	for i := range api.MaxTables {
		text += "table t" + strconv.Itoa(i) + "\nfield x text\n"
		for j := range api.MaxFields - 1 {
			more := min(by, api.MaxName-3)
			by -= more
			text += "field f" + strconv.Itoa(10+j) + strings.Repeat("g", more) + " text\n"
		}
		text += "index id x unique\n"
	}
	return strings.TrimSuffix(text, "\n")
}

// long: a text of so many bytes that is right but for its length.
func long(size int) string {
	return stretched(size - len(stretched(0)))
}

func TestTextLong(t *testing.T) {
	taken(t, long(8192))
	taken(t, long(8191)+"\n")
	taken(t, long(8000)+strings.Repeat("\n", 192))
	refused(t, long(8193), 0, api.ErrTextLong)
	refused(t, long(8192)+"\n", 0, api.ErrTextLong)
	refused(t, long(8000)+strings.Repeat("\n", 193), 0, api.ErrTextLong)
	for _, b := range []string{"a", "\n", " ", "\x00", ","} {
		refused(t, strings.Repeat(b, 8193), 0, api.ErrTextLong)
	}
	refused(t, strings.Repeat("a", 8192), 1, api.ErrWord)
	refused(t, strings.Repeat(" ", 8192), 1, api.ErrWord)
	refused(t, "table "+strings.Repeat("a", 8186), 1, api.ErrName)
	refused(t, "field x int\n"+strings.Repeat("a", 1<<20), 0, api.ErrTextLong)

	s, _, e := Parse(long(8192))
	text := Print(s)
	if e != api.OK || text != long(8192)+"\n" {
		t.Errorf("%d, %q", e, text)
	}
	refused(t, text, 0, api.ErrTextLong)
}

// lines: some of each kind, right ones and wrong ones.
func lines() []string {
	return []string{
		"", " ", "table a", "table b", "table a ", "table A", "tables",
		"field x text", "field x num", "field y list", "field z list", "field x int", "field Y num",
		"index id x unique", "index id x", "index id y,x unique", "index k x", "index k y,x lower", "index k y,z", "index k w loose", "index k x,x", "index k x loose lower", "index k x,",
	}
}

// each: all texts of at most so many of these pieces behind the beginning.
func each(beginning string, pieces []string, most int, see func(text string) bool) bool {
	if !see(beginning) {
		return false
	}
	for _, piece := range pieces {
		if most > 0 && !each(beginning+piece, pieces, most-1, see) {
			return false
		}
	}
	return true
}

func TestAllShortTexts(t *testing.T) {
	var pieces []string
	for _, line := range lines() {
		pieces = append(pieces, line+"\n")
	}
	see := func(text string) bool { return hold(t, text) && hold(t, strings.TrimSuffix(text, "\n")) }
	each("", pieces, 3, see)
	each("table a\nfield x text\n", pieces, 3, see)
	each("table b\nfield x text\nfield y list\nfield z list\nindex id x unique\n", pieces, 3, see)
}

func TestAllShortLines(t *testing.T) {
	see := func(text string) bool { return hold(t, text) }
	words := []string{"table", "field", "index", " ", "x", "id", ",", "list", "unique", "loose", "\n"}
	each("", words, 4, see)
	each(fields, words, 4, see)
	each(start, words, 4, see)
	each(start+"index k x", []string{" ", " unique", " lower", " loose"}, 5, see)
	each(start+"index k ", []string{"x", "n", "l", ",", "q"}, 6, see)
	each(start+"table b\nfield x text\nindex id ", []string{"x", "n", ","}, 5, see)
}

// others: the text with one byte less, more or another one at that place.
func others(text string, place int) []string {
	all := []string{text[:place] + text[place+1:]}
	for _, b := range []byte("\n ,axidtl09AZ-\r\t\x00`{/:\xff") {
		one := string([]byte{b})
		all = append(all, text[:place]+one+text[place:], text[:place]+one+text[place+1:])
	}
	return all
}

func TestOneByteOther(t *testing.T) {
	for place := range len(whole) {
		for _, text := range others(whole, place) {
			if !hold(t, text) {
				return
			}
		}
	}
}

func TestMoreBytesOther(t *testing.T) {
	random := rand.New(rand.NewSource(6))
	for range 20000 {
		text := whole
		for range 2 + random.Intn(3) {
			all := others(text, random.Intn(len(text)))
			text = all[random.Intn(len(all))]
		}
		if !hold(t, text) {
			return
		}
	}
}

// Whole lines taken out, doubled and in another place: the errors of places, names and numbers.
func TestLinesOther(t *testing.T) {
	random := rand.New(rand.NewSource(66))
	for range 20000 {
		all := strings.Split(whole+"\n"+numbered("index k", 3, " name"), "\n")
		for range 1 + random.Intn(4) {
			from, to := random.Intn(len(all)), random.Intn(len(all))
			line := all[from]
			if random.Intn(2) == 0 {
				all = slices.Delete(all, from, from+1)
			}
			all = slices.Insert(all, min(to, len(all)), line)
		}
		if !hold(t, strings.Join(all, "\n")) {
			return
		}
	}
}

func TestPrintOfOtherSchemas(t *testing.T) {
	numbers := []int{-1 << 63, -1, 0, 1, 2, 3, 4, 17, 1<<63 - 1}
	for _, n := range numbers {
		for _, m := range numbers {
			Print(api.Schema{Tables: []api.Table{{
				Name:    "a\nb",
				Fields:  []api.Field{{Name: "", Kind: n}, {Name: "x y", Kind: m}},
				Indexes: []api.Index{{Over: []int{n, m, n}}, {Name: ",", Loose: true}},
			}, {}}})
		}
	}
	Print(api.Schema{Tables: make([]api.Table, 1000)})
	Print(api.Schema{Tables: []api.Table{{Indexes: []api.Index{{Over: make([]int, 100000)}}}}})
}

// roomy: the schema with spare room, which is written full, behind every list.
func roomy(s api.Schema) api.Schema {
	var tables []api.Table
	for _, u := range s.Tables {
		var indexes []api.Index
		for _, x := range u.Indexes {
			x.Over = append(slices.Clone(x.Over), 7, 8)[:len(x.Over)]
			indexes = append(indexes, x)
		}
		u.Indexes = append(indexes, api.Index{Name: "spare", Over: []int{9}})[:len(indexes)]
		u.Fields = append(slices.Clone(u.Fields), api.Field{Name: "spare"})[:len(u.Fields)]
		tables = append(tables, u)
	}
	return api.Schema{Tables: append(tables, api.Table{Name: "spare"})[:len(tables)]}
}

// room: the schema with all its lists' spare room.
func room(s api.Schema) api.Schema {
	s.Tables = slices.Clone(s.Tables[:cap(s.Tables)])
	for i := range s.Tables {
		u := &s.Tables[i]
		u.Fields = slices.Clone(u.Fields[:cap(u.Fields)])
		u.Indexes = slices.Clone(u.Indexes[:cap(u.Indexes)])
		for j := range u.Indexes {
			over := u.Indexes[j].Over
			u.Indexes[j].Over = slices.Clone(over[:cap(over)])
		}
	}
	return s
}

func TestPrintLeavesItsArgument(t *testing.T) {
	s := roomy(wholeSchema())
	before := room(s)
	Print(s)
	if after := room(s); !reflect.DeepEqual(before, after) {
		t.Errorf("%v", after)
	}
}

// scrawl: writes over the lists of one table, spare room too.
func scrawl(u api.Table) {
	for i := range u.Indexes {
		over := u.Indexes[i].Over
		for j := range over[:cap(over)] {
			over[:cap(over)][j] = -5
		}
	}
	for i := range u.Fields[:cap(u.Fields)] {
		u.Fields[:cap(u.Fields)][i] = api.Field{Name: "other", Kind: -5}
	}
	for i := range u.Indexes[:cap(u.Indexes)] {
		u.Indexes[:cap(u.Indexes)][i] = api.Index{Name: "other"}
	}
}

func TestAnswersShareNothing(t *testing.T) {
	for i := range wholeSchema().Tables {
		s, _, _ := Parse(whole)
		other, _, _ := Parse(whole)
		scrawl(s.Tables[i])
		if !same(other, wholeSchema()) {
			t.Errorf("another answer: %v", other)
		}
		u := 1 - i
		if !same(api.Schema{Tables: s.Tables[u : u+1]}, api.Schema{Tables: wholeSchema().Tables[u : u+1]}) {
			t.Errorf("another table: %v", s.Tables[u])
		}
	}
	s, _, _ := Parse(whole)
	over := s.Tables[1].Indexes[0].Over
	for i := range over[:cap(over)] {
		over[:cap(over)][i] = -5
	}
	s.Tables[1].Indexes[0].Over = []int{1, 0}
	if !same(s, wholeSchema()) {
		t.Errorf("another index: %v", s)
	}
}

// Not even the names are pieces of the text that was handed in.
func TestTextIsNotKept(t *testing.T) {
	room := []byte(whole)
	s, _, _ := Parse(unsafe.String(&room[0], len(room)))
	clear(room)
	if !same(s, wholeSchema()) {
		t.Errorf("Parse keeps its text: %v", s)
	}
}

// What one call was given up with is not seen by the next.
func TestCallsInTurn(t *testing.T) {
	for _, text := range []string{"table a", start, "rubbish", whole, long(8193), "", start + "table b"} {
		for range 3 {
			hold(t, text)
			hold(t, whole)
		}
	}
}
