package rows

import (
	"encoding/binary"
	"slices"
	"strings"

	"muster/api"
)

// A plain reading of the chapter: key lists are made whole, by all ways to choose an element, and thrown away behind that; of all errors of a row the first one in the promise's order is told.

func modelLow(s string) string {
	for c := 'A'; c <= 'Z'; c++ {
		s = strings.ReplaceAll(s, string(c), string(c+32))
	}
	return s
}

func modelEncode(parts []api.Part) string {
	var out string
	for _, p := range parts {
		if p.Kind == 1 {
			out += "\x01" + strings.ReplaceAll(p.Text, "\x00", "\x00\xff") + "\x00\x01"
		} else {
			out += "\x02" + string(binary.BigEndian.AppendUint64(nil, p.Num))
		}
	}
	return out
}

// modelOwn: the lists of parts over the index's own fields, those with empty texts too.
func modelOwn(t api.Table, x api.Index, r api.Row) [][]api.Part {
	lists := [][]api.Part{nil}
	for _, place := range x.Over {
		c := r.Cells[place]
		var choice []api.Part
		switch t.Fields[place].Kind {
		case 1:
			choice = []api.Part{{Kind: 1, Text: c.Text}}
		case 2:
			choice = []api.Part{{Kind: 2, Num: c.Num}}
		case 3:
			for _, s := range c.List {
				choice = append(choice, api.Part{Kind: 1, Text: s})
			}
		}
		var longer [][]api.Part
		for _, list := range lists {
			for _, p := range choice {
				if x.Lower {
					p.Text = modelLow(p.Text)
				}
				longer = append(longer, append(slices.Clone(list), p))
			}
		}
		lists = longer
	}
	return lists
}

func hasEmpty(parts []api.Part) bool {
	return slices.ContainsFunc(parts, func(p api.Part) bool { return p.Kind == 1 && p.Text == "" })
}

// modelLists: the index's key lists.
func modelLists(t api.Table, x api.Index, r api.Row) [][]api.Part {
	var lists [][]api.Part
	for _, list := range modelOwn(t, x, r) {
		if x.Loose && hasEmpty(list) {
			continue
		}
		if !x.Unique {
			list = append(list, modelOwn(t, t.Indexes[0], r)[0]...)
		}
		lists = append(lists, list)
	}
	return lists
}

func modelMissing(t api.Table, x api.Index, r api.Row) bool {
	if x.Loose {
		return false
	}
	for _, place := range x.Over {
		c := r.Cells[place]
		switch t.Fields[place].Kind {
		case 1:
			if c.Text == "" {
				return true
			}
		case 3:
			if len(c.List) == 0 || slices.Contains(c.List, "") {
				return true
			}
		}
	}
	return false
}

func modelCell(kind int, c api.Cell) []api.Errno {
	var errs []api.Errno
	if kind == 1 && (c.Num > 0 || len(c.List) > 0) || kind == 2 && (c.Text != "" || len(c.List) > 0) || kind == 3 && (c.Text != "" || c.Num > 0) {
		errs = append(errs, 71)
	}
	if kind == 3 && len(c.List) > 32 {
		errs = append(errs, 72)
	}
	return errs
}

func modelFit(t api.Table, r api.Row) api.Errno {
	if len(r.Cells) != len(t.Fields) {
		return 70
	}
	var errs []api.Errno
	for i, f := range t.Fields {
		errs = append(errs, modelCell(f.Kind, r.Cells[i])...)
	}
	if errs != nil {
		return errs[0]
	}
	for _, x := range t.Indexes {
		if modelMissing(t, x, r) {
			errs = append(errs, 73)
		}
		for _, list := range modelLists(t, x, r) {
			if len(modelEncode(list)) > 1024 {
				errs = append(errs, 74)
			}
		}
	}
	if errs != nil {
		return errs[0]
	}
	return 0
}

func modelKeys(t api.Table, place int, r api.Row) ([]string, api.Errno) {
	if place < 0 || place >= len(t.Indexes) {
		return nil, 75
	}
	if e := modelFit(t, r); e != 0 {
		return nil, e
	}
	var out []string
	for _, list := range modelLists(t, t.Indexes[place], r) {
		if key := modelEncode(list); !slices.Contains(out, key) {
			out = append(out, key)
		}
	}
	slices.Sort(out)
	return out, 0
}

func modelProbe(t api.Table, place int, parts []api.Part, open bool) (string, api.Errno) {
	if place < 0 || place >= len(t.Indexes) {
		return "", 75
	}
	x := t.Indexes[place]
	if len(parts) > len(x.Over) {
		return "", 76
	}
	low := slices.Clone(parts)
	for i, p := range parts {
		text := t.Fields[x.Over[i]].Kind != 2
		if text && (p.Kind != 1 || p.Num != 0) || !text && (p.Kind != 2 || p.Text != "") {
			return "", 76
		}
		if x.Lower {
			low[i].Text = modelLow(p.Text)
		}
	}
	key := modelEncode(low)
	if open && len(parts) > 0 && parts[len(parts)-1].Kind == 1 {
		key = key[:len(key)-2]
	}
	if len(key) > 1024 {
		return "", 74
	}
	return key, 0
}
