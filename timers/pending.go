package timers

// timer is one that is pending.
type timer struct {
	id int
	at uint64
	// turn: when it was set, among all that were.
	turn uint64
	// place is where it stands in the heap: one that is stopped is taken out there.
	place int
}

// pending is a heap (of container/heap) of timers, the one that fires first at its top.
type pending []*timer

func (p pending) Len() int { return len(p) }

func (p pending) Less(i, j int) bool {
	if p[i].at != p[j].at {
		return p[i].at < p[j].at
	}
	return p[i].turn < p[j].turn
}

func (p pending) Swap(i, j int) {
	p[i], p[j] = p[j], p[i]
	p[i].place, p[j].place = i, j
}

// Push: puts a timer at the end, for container/heap.
func (p *pending) Push(x any) {
	t := x.(*timer)
	t.place = len(*p)
	*p = append(*p, t)
}

// Pop: takes the last timer off, for container/heap.
func (p *pending) Pop() any {
	last := len(*p) - 1
	t := (*p)[last]
	// The spare room would keep it from being given up.
	(*p)[last] = nil
	*p = (*p)[:last]
	return t
}
