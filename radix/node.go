package radix

import (
	"cmp"
	"slices"
	"strings"

	"muster/watch"
)

// node is never changed: trees share their nodes.
type node[V any] struct {
	// path is whole, not the piece beneath the node above: so a node stays the same object when another one comes or goes above it.
	path  string
	value *value[V]
	kids  []*node[V]
	watch *watch.Watch
}

// value is an object of its own, since its watch outlives the nodes that hold it.
type value[V any] struct {
	held  V
	watch *watch.Watch
}

func newNode[V any](path string, v *value[V], kids []*node[V]) *node[V] {
	return &node[V]{path: path, value: v, kids: kids, watch: watch.New()}
}

func newValue[V any](v V) *value[V] {
	return &value[V]{held: v, watch: watch.New()}
}

// get: what v holds; of nil: nothing.
func (v *value[V]) get() (V, bool) {
	if v == nil {
		var none V
		return none, false
	}
	return v.held, true
}

// entry: the entry whose key is n's path, if there is one. (n has a value or is the root: a path beside no value is "" then, as it must be.)
func (n *node[V]) entry() (string, V, bool) {
	held, ok := n.value.get()
	return n.path, held, ok
}

// along: shows look the nodes from n on whose path is a beginning of k, the shortest first. (n's own must be one.)
func (n *node[V]) along(k string, look func(n *node[V])) {
	for n != nil {
		look(n)
		n = n.next(k)
	}
}

// next: the kid whose path is a beginning of k; nil: none.
func (n *node[V]) next(k string) *node[V] {
	at, there := n.toward(k)
	// Only the bytes beyond n's path are compared: the way down a long key would cost its square otherwise.
	beyond := len(n.path)
	if !there || !strings.HasPrefix(k[beyond:], n.kids[at].path[beyond:]) {
		return nil
	}
	return n.kids[at]
}

// toward: the place among n's kids of the one that has k's next byte, and whether there is one.
func (n *node[V]) toward(k string) (int, bool) {
	beyond := len(n.path)
	if len(k) == beyond {
		return 0, false
	}
	return slices.BinarySearchFunc(n.kids, k[beyond], func(kid *node[V], b byte) int {
		return cmp.Compare(kid.path[beyond], b)
	})
}

// reach: the last one of the nodes along k.
func (n *node[V]) reach(k string) *node[V] {
	last := n
	n.along(k, func(next *node[V]) { last = next })
	return last
}

// way: the nodes along k: all but the last, and the last.
func (n *node[V]) way(k string) ([]*node[V], *node[V]) {
	var way []*node[V]
	n.along(k, func(next *node[V]) { way = append(way, next) })
	last := len(way) - 1
	return way[:last], way[last]
}

// valueOf: the value of k at n or beneath; nil: none.
func (n *node[V]) valueOf(k string) *value[V] {
	last := n.reach(k)
	if len(last.path) < len(k) {
		return nil
	}
	return last.value
}

// withEntry: n anew, the last node along k, with k's value at it or beneath.
func (n *node[V]) withEntry(k string, v *value[V]) *node[V] {
	if len(n.path) == len(k) {
		return newNode(n.path, v, n.kids)
	}
	at, there := n.toward(k)
	if !there {
		return n.withKids(k, newNode(strings.Clone(k), v, nil))
	}
	return n.withKids(k, n.kids[at].joined(k, v))
}

// joined: the node that takes n's place when k, which doesn't begin with n's path, comes beside it or above it.
func (n *node[V]) joined(k string, v *value[V]) *node[V] {
	common := commonLen(n.path, k)
	if common == len(k) {
		return newNode(strings.Clone(k), v, []*node[V]{n})
	}
	// The paths are copies: a piece of k would keep all of k when k has long been deleted.
	kids := []*node[V]{n, newNode(strings.Clone(k), v, nil)}
	if k[common] < n.path[common] {
		slices.Reverse(kids)
	}
	return newNode(strings.Clone(k[:common]), nil, kids)
}

func commonLen(a, b string) int {
	most := min(len(a), len(b))
	for i := range most {
		if a[i] != b[i] {
			return i
		}
	}
	return most
}

// withKids: n anew, with those kids instead of the one that has k's next byte, if there is one.
func (n *node[V]) withKids(k string, kids ...*node[V]) *node[V] {
	at, there := n.toward(k)
	behind := at
	if there {
		behind++
	}
	return newNode(n.path, n.value, slices.Concat(n.kids[:at], kids, n.kids[behind:]))
}

// needed: what takes n's place in a tree: n; or its kids, if there is no value and no branching that needs n.
func (n *node[V]) needed() []*node[V] {
	if n.value != nil || len(n.kids) > 1 {
		return []*node[V]{n}
	}
	return n.kids
}

// fresh: how many of the nodes from n on are none of old's. old is a node of another tree whose path is a beginning of n's.
func (n *node[V]) fresh(old *node[V]) int {
	reached := old.reach(n.path)
	if reached == n {
		// All that lies beneath a node that both trees have is the same, too.
		return 0
	}
	count := 1
	for _, kid := range n.kids {
		count += kid.fresh(reached)
	}
	return count
}
