// Package txn is layer 5: see shared/doc/05-txn.md. It publishes versions of a tree: many readers, one writer at a time.
package txn

import (
	"sync"
	"sync/atomic"

	"muster/api"
	"muster/radix"
)

// Base holds the current version of a tree.
type Base[V any] struct {
	// current is atomic: readers wait for nobody.
	current atomic.Pointer[version[V]]
	// writer guards open, and all that ends a transaction: the next one begins behind the last one's Fire.
	writer sync.Mutex
	open   bool
}

// version is never changed: tree and number take the place of the old ones at one and the same moment.
type version[V any] struct {
	tree   *radix.Tree[V]
	number uint64
}

// New: a base with an empty tree.
func New[V any]() *Base[V] {
	b := &Base[V]{}
	b.current.Store(&version[V]{tree: radix.New[V]()})
	return b
}

// Tree: the current tree.
func (b *Base[V]) Tree() *radix.Tree[V] {
	return b.current.Load().tree
}

// Version: how many commits have touched a key.
func (b *Base[V]) Version() uint64 {
	return b.current.Load().number
}

// Begin: opens a transaction.
func (b *Base[V]) Begin() (*Txn[V], api.Errno) {
	b.writer.Lock()
	defer b.writer.Unlock()
	if b.open {
		return nil, api.ErrOpen
	}
	b.open = true
	return &Txn[V]{base: b, tree: b.Tree(), touched: map[string]struct{}{}}, api.OK
}

// end: lets the next writer in; publishes the tree, if there are touched keys; how many watches were fired.
func (b *Base[V]) end(now *radix.Tree[V], touched []string) int {
	b.writer.Lock()
	defer b.writer.Unlock()
	b.open = false
	if len(touched) == 0 {
		return 0
	}
	old := b.current.Load()
	b.current.Store(&version[V]{tree: now, number: old.number + 1})
	// Only now: whoever is woken finds the new tree.
	return old.tree.Fire(touched)
}
