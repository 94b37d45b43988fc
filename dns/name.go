package dns

import "muster/api"

// What stands in a length byte's place from here on is a pointer.
const pointerMark = 192

// isName: are the labels a name?
func isName(labels []string) bool {
	for _, label := range labels {
		if label == "" || len(label) > api.MaxLabel {
			return false
		}
	}
	return nameLen(labels) <= api.MaxNameLen
}

// nameLen: how many bytes the name has on the wire.
func nameLen(labels []string) int {
	length := 1
	for _, label := range labels {
		length += len(label) + 1
	}
	return length
}

func appendName(b []byte, labels []string) []byte {
	for _, label := range labels {
		b = append(b, byte(len(label)))
		b = append(b, label...)
	}
	return append(b, 0)
}

// name is a name that is being read: its labels so far, and how many bytes more it may have ahead of its end.
type name struct {
	labels []string
	room   int
}

func newName() *name { return &name{room: api.MaxNameLen - 1} }

// readPart takes the labels that stand from a place on into the name: the place of the byte that ends them, a 0 or the first one of a pointer.
func (n *name) readPart(b []byte, at int) (int, api.Errno) {
	for {
		if at >= len(b) {
			return 0, api.ErrDnsShort
		}
		length := int(b[at])
		if length == 0 || length >= pointerMark {
			return at, api.OK
		}
		if length > api.MaxLabel || length+1 > n.room {
			return 0, api.ErrDnsName
		}
		label := b[at+1:]
		if len(label) < length {
			return 0, api.ErrDnsShort
		}
		n.labels = append(n.labels, string(label[:length]))
		n.room -= length + 1
		at += length + 1
	}
}

// readPlain: the name without pointers that begins at a place, and the place behind it.
func readPlain(b []byte, begin int) ([]string, int, api.Errno) {
	n := newName()
	at, err := n.readPart(b, begin)
	if err != api.OK {
		return nil, 0, err
	}
	if b[at] != 0 {
		return nil, 0, api.ErrDnsName
	}
	return n.labels, at + 1, api.OK
}

// readPointed: the name, which may be pointed at, that begins at a place, and the place behind what stands of it there.
func readPointed(b []byte, begin int) ([]string, int, api.Errno) {
	n := newName()
	at, err := n.readPart(b, begin)
	end := at + 1
	if err == api.OK && b[at] != 0 {
		end = at + 2
	}
	// Each part begins ahead of the one before: names that go round and round are told by that.
	for part := begin; err == api.OK && b[at] != 0; {
		if part, err = readPointer(b, at, part); err == api.OK {
			at, err = n.readPart(b, part)
		}
	}
	if err != api.OK {
		return nil, 0, err
	}
	return n.labels, end, api.OK
}

// readPointer: the place that the pointer points to, which must be less than where the part begins that it stands in.
func readPointer(b []byte, at, part int) (int, api.Errno) {
	if len(b) < at+2 {
		return 0, api.ErrDnsShort
	}
	to := int(number16(b[at:]) &^ (pointerMark << 8))
	if to >= part {
		return 0, api.ErrDnsName
	}
	return to, api.OK
}
