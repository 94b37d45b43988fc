package schema

import (
	"regexp"
	"slices"
	"strings"

	"muster/api"
)

// A plain reading of the chapter: the lines' forms are expressions, and of all errors of a line the one with the least number is told.

var (
	nameForm  = regexp.MustCompile(`^[a-z][a-z0-9]{0,31}$`)
	tableForm = regexp.MustCompile(`^table ([^ ]*)$`)
	fieldForm = regexp.MustCompile(`^field ([^ ]*) (text|num|list)$`)
	indexForm = regexp.MustCompile(`^index ([^ ]*) ([^ ]*)( unique)?( lower)?( loose)?$`)
)

type model struct {
	tables []api.Table
	begun  int
}

func modelParse(text string) (api.Schema, int, api.Errno) {
	if len(text) > 8192 {
		return api.Schema{}, 0, 60
	}
	var m model
	for i, line := range strings.Split(text, "\n") {
		if line == "" {
			continue
		}
		errs := m.line(line, i+1)
		if len(errs) == 0 {
			continue
		}
		err := slices.Min(errs)
		if err > 62 && slices.Contains(errs, 68) {
			return api.Schema{}, m.begun, 68
		}
		return api.Schema{}, i + 1, err
	}
	if m.bare() {
		return api.Schema{}, m.begun, 68
	}
	return api.Schema{Tables: m.tables}, 0, 0
}

func (m *model) bare() bool {
	return len(m.tables) > 0 && m.tables[len(m.tables)-1].Indexes == nil
}

// line: all errors of the line; takes it in, if there are none.
func (m *model) line(line string, number int) []api.Errno {
	if parts := tableForm.FindStringSubmatch(line); parts != nil {
		return m.table(parts[1], number)
	}
	var add func(t *api.Table) []api.Errno
	var names []string
	if parts := fieldForm.FindStringSubmatch(line); parts != nil {
		names = parts[1:2]
		add = func(t *api.Table) []api.Errno { return modelField(t, parts[1], parts[2]) }
	} else if parts := indexForm.FindStringSubmatch(line); parts != nil {
		over := strings.Split(parts[2], ",")
		names = append([]string{parts[1]}, over...)
		x := api.Index{Name: parts[1], Unique: parts[3] != "", Lower: parts[4] != "", Loose: parts[5] != ""}
		add = func(t *api.Table) []api.Errno { return modelIndex(t, x, over) }
	} else {
		return []api.Errno{61}
	}
	var errs []api.Errno
	if slices.ContainsFunc(names, func(name string) bool { return !nameForm.MatchString(name) }) {
		errs = append(errs, 62)
	}
	if len(m.tables) == 0 {
		return append(errs, 63)
	}
	if errs != nil {
		return errs
	}
	return add(&m.tables[len(m.tables)-1])
}

func (m *model) table(name string, number int) []api.Errno {
	var errs []api.Errno
	if !nameForm.MatchString(name) {
		errs = append(errs, 62)
	}
	if slices.ContainsFunc(m.tables, func(t api.Table) bool { return t.Name == name }) {
		errs = append(errs, 64)
	}
	if len(m.tables) >= 16 {
		errs = append(errs, 65)
	}
	if m.bare() {
		errs = append(errs, 68)
	}
	if errs == nil {
		m.tables = append(m.tables, api.Table{Name: name})
		m.begun = number
	}
	return errs
}

func modelField(t *api.Table, name, kind string) []api.Errno {
	var errs []api.Errno
	if t.Indexes != nil {
		errs = append(errs, 63)
	}
	if slices.ContainsFunc(t.Fields, func(f api.Field) bool { return f.Name == name }) {
		errs = append(errs, 64)
	}
	if len(t.Fields) >= 16 {
		errs = append(errs, 65)
	}
	if errs == nil {
		t.Fields = append(t.Fields, api.Field{Name: name, Kind: map[string]int{"text": 1, "num": 2, "list": 3}[kind]})
	}
	return errs
}

func modelIndex(t *api.Table, x api.Index, over []string) []api.Errno {
	var errs []api.Errno
	if slices.ContainsFunc(t.Indexes, func(y api.Index) bool { return y.Name == x.Name }) {
		errs = append(errs, 64)
	}
	if len(slices.Compact(slices.Sorted(slices.Values(over)))) < len(over) {
		errs = append(errs, 64)
	}
	if len(t.Indexes) >= 8 || len(over) > 4 {
		errs = append(errs, 65)
	}
	lists := 0
	for _, name := range over {
		place := slices.IndexFunc(t.Fields, func(f api.Field) bool { return f.Name == name })
		if place < 0 {
			errs = append(errs, 66)
			continue
		}
		if t.Fields[place].Kind == 3 {
			lists++
		}
		x.Over = append(x.Over, place)
	}
	first := t.Indexes == nil
	if lists > 1 || first && (x.Name != "id" || !x.Unique || x.Loose || lists > 0) {
		errs = append(errs, 67)
	}
	if errs == nil {
		t.Indexes = append(t.Indexes, x)
	}
	return errs
}

// modelPrint: the text as Print must give its schema back.
func modelPrint(text string) string {
	var out string
	for _, line := range strings.Split(text, "\n") {
		if line != "" {
			out += line + "\n"
		}
	}
	return out
}
