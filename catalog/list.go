package catalog

import (
	"muster/api"
	"muster/records"
	"muster/store"
)

// list is a list of operations on its way into the store. Nobody else sees any of it until its transaction is committed.
type list struct {
	write *store.Write
	// next is the index that the commit will have. Behind the greatest one it is 0, and there will be no commit.
	next uint64
	// changed: has an operation changed a record?
	changed bool
}

// applyAll: applies the operations in turn, up to the first one that is refused: its place and its error.
func (l *list) applyAll(ops []api.Op) (int, api.Errno) {
	for at, o := range ops {
		if err := l.apply(o); err != api.OK {
			return at, err
		}
	}
	return 0, api.OK
}

func (l *list) apply(given api.Op) api.Errno {
	o, err := records.FixOp(given)
	if err != api.OK {
		return err
	}
	if err := l.lacking(o); err != api.OK {
		return err
	}
	table, id := named(o)
	old, had := find(l.write.View(), table, id)
	was := stampsOf(table, old)
	if o.Cas && o.Want != was.changed {
		return api.ErrStale
	}
	switch o.Kind {
	case api.OpNode, api.OpService, api.OpCheck:
		l.put(o, old, had)
	case api.DropNode, api.DropService, api.DropCheck:
		l.drop(o)
	}
	return api.OK
}

// lacking: the error, if the node or the service that the record needs isn't there.
func (l *list) lacking(o api.Op) api.Errno {
	now := l.write.View()
	switch o.Kind {
	case api.OpService:
		if !has(now, nodes, o.Service.Node) {
			return api.ErrNoNode
		}
	case api.OpCheck:
		if !has(now, nodes, o.Check.Node) {
			return api.ErrNoNode
		}
		if o.Check.Service != "" && !has(now, services, o.Check.Node, o.Check.Service) {
			return api.ErrNoService
		}
	}
	return api.OK
}

// put: makes the operation's record, or changes the old one, if that is unlike it.
func (l *list) put(o api.Op, old api.Row, had bool) {
	table, _ := named(o)
	was := stampsOf(table, old)
	if had && sameRow(old, rowOf(o, was)) {
		return
	}
	now := stamps{made: was.made, changed: l.next}
	if !had {
		now.made = l.next
	}
	// A record in normal form fits its table, and its id is the one unique index.
	l.write.Put(table, rowOf(o, now))
	l.raise(table)
}

// drop: takes the record out, if it is there, and what hangs on it. (What hangs on a record is never there without it.)
func (l *list) drop(o api.Op) {
	table, id := named(o)
	l.dropAll(table, byId, id)
	switch o.Kind {
	case api.DropNode:
		l.dropAll(services, byId, id)
		l.dropAll(checks, byId, id)
	case api.DropService:
		l.dropAll(checks, byService, id)
	}
}

// dropAll: takes out all rows of the index whose keys begin so.
func (l *list) dropAll(table, index string, parts []api.Part) {
	if count, _ := l.write.DropAll(table, index, parts); count > 0 {
		l.raise(table)
	}
}

// raise: a record of the table was made, changed or taken out.
func (l *list) raise(table string) {
	l.write.Put(marks, markRow(table, l.next))
	l.changed = true
}
