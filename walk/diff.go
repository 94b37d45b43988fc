package walk

import (
	"muster/api"
	"muster/radix"
)

// Diff: the keys at which a and b differ.
func Diff[V comparable](a, b *radix.Tree[V]) []api.Change {
	var changes []api.Change
	tell := func(k string, kind int) {
		changes = append(changes, api.Change{Key: k, Kind: kind})
	}
	// b's entries are a list, from which a's walk takes off what it has passed: two iterators can't be gone over in step.
	left := entries(b)
	for k, v := range All(a) {
		for len(left) > 0 && left[0].key < k {
			tell(left[0].key, api.ChangeNew)
			left = left[1:]
		}
		if len(left) == 0 || left[0].key != k {
			tell(k, api.ChangeGone)
			continue
		}
		if !alike(v, left[0].value) {
			tell(k, api.ChangeOther)
		}
		left = left[1:]
	}
	for _, e := range left {
		tell(e.key, api.ChangeNew)
	}
	return changes
}

type entry[V any] struct {
	key   string
	value V
}

func entries[V any](t *radix.Tree[V]) []entry[V] {
	list := make([]entry[V], 0, t.Len())
	for k, v := range All(t) {
		list = append(list, entry[V]{key: k, value: v})
	}
	return list
}

// alike: whether x == y. Interfaces that hold what == can't compare (lists, maps, functions) make it panic: such values aren't alike.
func alike[V comparable](x, y V) (same bool) {
	defer func() {
		if recover() != nil {
			same = false
		}
	}()
	return x == y
}
