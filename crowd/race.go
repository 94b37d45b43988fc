package crowd

import (
	"slices"
	"sync"

	"muster/api"
	"muster/catalog"
)

// Race: applies lists while readers look.
func Race(c *catalog.Catalog, lists [][]api.Op, readers int) ([]uint64, api.Errno) {
	if err := workersError(readers); err != api.OK {
		return nil, err
	}
	torn := make([]uint64, readers)
	off, through := make(chan struct{}), make(chan struct{})
	var begun, joined sync.WaitGroup
	for place := range readers {
		begun.Add(1)
		joined.Add(1)
		go func() {
			defer joined.Done()
			r := reader{catalog: c}
			r.look()
			begun.Done()
			<-off
			r.lookUntil(through)
			torn[place] = r.torn
		}()
	}
	// All set off together: else the writer could be through before a reader looks, and the first readers would hold up the start of the others.
	begun.Wait()
	close(off)
	for _, ops := range lists {
		c.Apply(ops)
	}
	close(through)
	joined.Wait()
	return torn, api.OK
}

// reader looks at a catalog again and again, and counts the torn views.
type reader struct {
	catalog *catalog.Catalog
	// last is the index of the view that was taken last; 0, which no index is below, ahead of the first one.
	last uint64
	torn uint64
}

func (r *reader) look() {
	v := r.catalog.View()
	nodes, index := v.Nodes(), v.Index()
	if isTorn(r.last, index, nodes) {
		r.torn++
	}
	r.last = index
}

// lookUntil: looks, once at least, until the channel is closed.
func (r *reader) lookUntil(through <-chan struct{}) {
	for {
		r.look()
		select {
		case <-through:
			return
		default:
		}
	}
}

// isTorn: is a view with that index and these nodes, taken behind one with the index last, not one that a moment of the catalog can have?
func isTorn(last, index uint64, nodes []api.Node) bool {
	return index < last || slices.ContainsFunc(nodes, func(n api.Node) bool { return n.Changed > index })
}
