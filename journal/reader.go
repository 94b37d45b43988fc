package journal

import "muster/api"

// reader reads the parts of a payload, one behind the other.
type reader struct {
	rest []byte
	// odd: something stood there, or was missing, that no payload has. What is read from then on means nothing.
	odd bool
}

// readPayload: the sound entry that has this payload; false: none has.
func readPayload(payload []byte) (api.Entry, bool) {
	r := &reader{rest: payload}
	e := api.Entry{Index: r.number(indexSize)}
	for range r.small() {
		e.Ops = append(e.Ops, r.op())
	}
	if r.odd || len(r.rest) > 0 || !isSound(e) {
		return api.Entry{}, false
	}
	return e, true
}

// op: the next operation. Of a kind that is none of the six there is nothing to read: it isn't sound.
func (r *reader) op() api.Op {
	o := api.Op{Kind: r.small()}
	o.Cas, o.Want = r.cas()
	switch o.Kind {
	case api.OpNode:
		o.Node = api.Node{Name: r.text(), Addr: r.text()}
	case api.OpService:
		o.Service = api.Service{Node: r.text(), Id: r.text(), Name: r.text(), Port: int(r.number(portSize)), Tags: r.texts()}
	case api.OpCheck:
		o.Check = api.Check{Node: r.text(), Id: r.text(), Service: r.text(), Status: r.small(), Note: r.text()}
	case api.DropNode:
		o.Node = api.Node{Name: r.text()}
	case api.DropService:
		o.Service = api.Service{Node: r.text(), Id: r.text()}
	case api.DropCheck:
		o.Check = api.Check{Node: r.text(), Id: r.text()}
	}
	return o
}

// cas: is it a compare-and-set, and what does it want?
func (r *reader) cas() (bool, uint64) {
	switch r.small() {
	case casNo:
		return false, 0
	case casYes:
		return true, r.number(indexSize)
	}
	r.odd = true
	return false, 0
}

// texts: a list of texts, behind the byte that says how many.
func (r *reader) texts() []string {
	var texts []string
	for range r.small() {
		texts = append(texts, r.text())
	}
	return texts
}

// text: a text in memory of its own.
func (r *reader) text() string {
	return string(r.take(r.small()))
}

// small: a number of one byte.
func (r *reader) small() int {
	return int(r.number(1))
}

func (r *reader) number(size int) uint64 {
	return readNumber(r.take(size))
}

// take: the next so many bytes; none, if there are fewer.
func (r *reader) take(size int) []byte {
	if size > len(r.rest) {
		r.odd = true
		return nil
	}
	taken := r.rest[:size]
	r.rest = r.rest[size:]
	return taken
}

// readNumber: the number whose bytes those are, the highest one first.
func readNumber(b []byte) uint64 {
	n := uint64(0)
	for _, next := range b {
		n = n<<8 | uint64(next)
	}
	return n
}
