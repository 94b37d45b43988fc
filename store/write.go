package store

import (
	"slices"

	"muster/api"
	"muster/txn"
	"muster/walk"
)

// Write is one transaction.
type Write struct {
	*tables
	txn *txn.Txn[api.Row]
	// begun is the base's version at the moment of Begin.
	begun uint64
}

// View: a look at what the transaction has done so far.
func (w *Write) View() *View {
	if w.over() {
		return nil
	}
	return &View{tables: w.tables, tree: w.txn.Tree(), version: w.begun, unheard: true}
}

// Put: puts a row in.
func (w *Write) Put(table string, r api.Row) (api.Row, bool, api.Errno) {
	if w.over() {
		return api.Row{}, false, api.ErrOver
	}
	at, err := w.first(table)
	if err != api.OK {
		return api.Row{}, false, err
	}
	keys, err := w.entryKeys(at, r)
	if err != api.OK {
		return api.Row{}, false, err
	}
	old, oldKeys, had := w.held(at, keys[0])
	if w.anyTaken(keys, oldKeys) {
		return api.Row{}, false, api.ErrUnique
	}
	w.drop(without(oldKeys, keys))
	w.set(keys, copyRow(r))
	return copyRow(old), had, api.OK
}

// Drop: takes a row out.
func (w *Write) Drop(table string, parts []api.Part) (api.Row, bool, api.Errno) {
	if w.over() {
		return api.Row{}, false, api.ErrOver
	}
	at, err := w.first(table)
	if err != api.OK {
		return api.Row{}, false, err
	}
	if !w.isWhole(at, len(parts)) {
		return api.Row{}, false, api.ErrProbe
	}
	id, err := w.probe(at, parts, false)
	if err != api.OK {
		return api.Row{}, false, err
	}
	old, keys, had := w.held(at, id)
	w.drop(keys)
	return copyRow(old), had, api.OK
}

// DropAll: takes out all rows of an index whose keys begin so.
func (w *Write) DropAll(table, index string, parts []api.Part) (int, api.Errno) {
	if w.over() {
		return 0, api.ErrOver
	}
	at, p, err := w.seek(table, index, parts, false)
	if err != api.OK {
		return 0, err
	}
	count := 0
	for key := range walk.Under(w.txn.Tree(), p) {
		// A row may stand at several of the keys: all of them go with the first.
		if _, keys, had := w.held(at, key); had {
			w.drop(keys)
			count++
		}
	}
	return count, api.OK
}

// Commit: publishes.
func (w *Write) Commit() (int, api.Errno) {
	return w.txn.Commit()
}

// Abort: gives up.
func (w *Write) Abort() api.Errno {
	return w.txn.Abort()
}

func (w *Write) over() bool {
	return w.txn.Tree() == nil
}

// held: the row at the entry key, of the table at that place, and all its entry keys; false: there is none.
func (w *Write) held(at place, key string) (api.Row, []string, bool) {
	r, ok := w.txn.Get(key)
	if !ok {
		return api.Row{}, nil, false
	}
	// It was put in, so it fits.
	keys, _ := w.entryKeys(at, r)
	return r, keys, true
}

// anyTaken: does a row have one of the entry keys, other than the one whose own they are? That can be in a unique index alone: elsewhere each key ends with the id's parts.
func (w *Write) anyTaken(keys, own []string) bool {
	return slices.ContainsFunc(without(keys, own), func(key string) bool {
		_, taken := w.txn.Get(key)
		return taken
	})
}

func (w *Write) drop(keys []string) {
	for _, key := range keys {
		w.txn.Drop(key)
	}
}

func (w *Write) set(keys []string, r api.Row) {
	for _, key := range keys {
		w.txn.Set(key, r)
	}
}

// without: the keys but those that stand in others, too, which are rising.
func without(keys, others []string) []string {
	var rest []string
	for _, key := range keys {
		if _, both := slices.BinarySearch(others, key); !both {
			rest = append(rest, key)
		}
	}
	return rest
}
