package schema

import (
	"slices"
	"strings"

	"muster/api"
)

// fault is what a reader gives up with: the first error, and its line.
type fault struct {
	line int
	err  api.Errno
}

// reader holds what the lines up to now have made.
type reader struct {
	tables []api.Table
	// line is the number of the line that is being read, begun that of the last table's own line.
	line, begun int
}

// read: the schema of the text; gives up by a panic with a fault.
func read(text string) api.Schema {
	var r reader
	r.refuse(len(text) > api.MaxText, api.ErrTextLong)
	// A copy is read: the names are pieces of it, and the text itself isn't kept.
	for i, line := range strings.Split(strings.Clone(text), lineEnd) {
		r.line = i + 1
		if line != "" {
			r.readLine(strings.Split(line, blank))
		}
	}
	r.endTable()
	return api.Schema{Tables: r.tables}
}

// refuse: gives up at the line that is being read, if something is wrong with it.
func (r *reader) refuse(wrong bool, err api.Errno) {
	if wrong {
		panic(fault{line: r.line, err: err})
	}
}

func (r *reader) readLine(words []string) {
	switch words[0] {
	case tableWord:
		r.readTable(words)
	case fieldWord:
		r.readField(words)
	case indexWord:
		r.readIndex(words)
	default:
		r.refuse(true, api.ErrWord)
	}
}

// readTable, readField and readIndex ask for the errors in the order of their numbers: it tells which one is the first.
func (r *reader) readTable(words []string) {
	r.refuse(len(words) != 2, api.ErrWord)
	name := words[1]
	r.refuse(!isName(name), api.ErrName)
	r.endTable()
	r.refuse(hasTable(r.tables, name), api.ErrTwice)
	r.refuse(len(r.tables) == api.MaxTables, api.ErrMany)
	r.tables = append(r.tables, api.Table{Name: name})
	r.begun = r.line
}

func (r *reader) readField(words []string) {
	r.refuse(len(words) != 3, api.ErrWord)
	f := api.Field{Name: words[1], Kind: kindOf(words[2])}
	r.refuse(f.Kind == 0, api.ErrWord)
	r.refuse(!isName(f.Name), api.ErrName)
	t := r.table()
	r.refuse(len(t.Indexes) > 0, api.ErrPlace)
	r.refuse(fieldPlace(t.Fields, f.Name) >= 0, api.ErrTwice)
	r.refuse(len(t.Fields) == api.MaxFields, api.ErrMany)
	t.Fields = append(t.Fields, f)
}

func (r *reader) readIndex(words []string) {
	r.refuse(len(words) < 3, api.ErrWord)
	x := api.Index{Name: words[1]}
	rest := words[3:]
	x.Unique, rest = takeFlag(rest, uniqueFlag)
	x.Lower, rest = takeFlag(rest, lowerFlag)
	x.Loose, rest = takeFlag(rest, looseFlag)
	r.refuse(len(rest) > 0, api.ErrWord)
	names := strings.Split(words[2], comma)
	r.refuse(!isName(x.Name) || !allNames(names), api.ErrName)
	t := r.table()
	r.refuse(hasIndex(t.Indexes, x.Name) || anyTwice(names), api.ErrTwice)
	r.refuse(len(t.Indexes) == api.MaxIndexes || len(names) > api.MaxOver, api.ErrMany)
	for _, name := range names {
		x.Over = append(x.Over, fieldPlace(t.Fields, name))
	}
	r.refuse(slices.Contains(x.Over, -1), api.ErrNoField)
	r.refuse(!mayStand(*t, x), api.ErrIndex)
	t.Indexes = append(t.Indexes, x)
}

// table: the one that the line belongs to.
func (r *reader) table() *api.Table {
	r.refuse(len(r.tables) == 0, api.ErrPlace)
	return &r.tables[len(r.tables)-1]
}

// endTable: asks of the last table, if there is one, what can't be known ahead of its end.
func (r *reader) endTable() {
	if len(r.tables) > 0 && len(r.table().Indexes) == 0 {
		panic(fault{line: r.begun, err: api.ErrBare})
	}
}

// takeFlag: do the words begin with that flag? And the words behind it.
func takeFlag(words []string, flag string) (bool, []string) {
	if len(words) == 0 || words[0] != flag {
		return false, words
	}
	return true, words[1:]
}

// mayStand: may the index stand behind those that the table has?
func mayStand(t api.Table, x api.Index) bool {
	lists := 0
	for _, place := range x.Over {
		if t.Fields[place].Kind == api.FieldList {
			lists++
		}
	}
	if len(t.Indexes) == 0 {
		return x.Name == idName && x.Unique && !x.Loose && lists == 0
	}
	return lists < 2
}

func isName(word string) bool {
	if word == "" || len(word) > api.MaxName || isDigit(word[0]) {
		return false
	}
	for i := range len(word) {
		if !isLetter(word[i]) && !isDigit(word[i]) {
			return false
		}
	}
	return true
}

func isLetter(b byte) bool { return b >= 'a' && b <= 'z' }

func isDigit(b byte) bool { return b >= '0' && b <= '9' }

func allNames(words []string) bool {
	for _, word := range words {
		if !isName(word) {
			return false
		}
	}
	return true
}

func anyTwice(names []string) bool {
	for i, name := range names {
		if slices.Contains(names[:i], name) {
			return true
		}
	}
	return false
}

func hasTable(tables []api.Table, name string) bool {
	for _, t := range tables {
		if t.Name == name {
			return true
		}
	}
	return false
}

func hasIndex(indexes []api.Index, name string) bool {
	for _, x := range indexes {
		if x.Name == name {
			return true
		}
	}
	return false
}

// fieldPlace: the place of the field of that name; -1: there is none.
func fieldPlace(fields []api.Field, name string) int {
	for place, f := range fields {
		if f.Name == name {
			return place
		}
	}
	return -1
}
