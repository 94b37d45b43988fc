package journal

import (
	"encoding/binary"
	"hash/crc32"
	"reflect"
	"regexp"
	"slices"

	"muster/api"
)

// A plain reading of the chapter. What is sound is told by patterns and by building the operation anew from what its kind uses; a payload is read by stepping over its bytes until they are done, or the step falls off their end.

var (
	labelForm = regexp.MustCompile(`\A[a-z0-9]([a-z0-9-]{0,61}[a-z0-9])?\z`)
	addrForm  = regexp.MustCompile(`\A((25[0-5]|2[0-4][0-9]|1[0-9][0-9]|[1-9][0-9]|[0-9])(\.|\z)){4}\z`)
	noteForm  = regexp.MustCompile(`\A[ -~]{0,200}\z`)
)

func modelSound(e api.Entry) bool {
	if len(e.Ops) < 1 || len(e.Ops) > 64 {
		return false
	}
	for _, o := range e.Ops {
		if !reflect.DeepEqual(bare(o), bare(used(o))) || !modelValid(o) {
			return false
		}
	}
	return true
}

// used: the operation with those parts alone that its kind uses.
func used(o api.Op) api.Op {
	u := api.Op{Kind: o.Kind, Cas: o.Cas}
	if o.Cas {
		u.Want = o.Want
	}
	n, s, c := o.Node, o.Service, o.Check
	switch o.Kind {
	case 1:
		u.Node = api.Node{Name: n.Name, Addr: n.Addr}
	case 2:
		u.Service = api.Service{Node: s.Node, Id: s.Id, Name: s.Name, Port: s.Port, Tags: s.Tags}
	case 3:
		u.Check = api.Check{Node: c.Node, Id: c.Id, Service: c.Service, Status: c.Status, Note: c.Note}
	case 4:
		u.Node.Name = n.Name
	case 5:
		u.Service.Node, u.Service.Id = s.Node, s.Id
	case 6:
		u.Check.Node, u.Check.Id = c.Node, c.Id
	}
	return u
}

func modelValid(o api.Op) bool {
	label := labelForm.MatchString
	n, s, c := o.Node, o.Service, o.Check
	switch o.Kind {
	case 1:
		return label(n.Name) && addrForm.MatchString(n.Addr) && n.Addr[len(n.Addr)-1] != '.'
	case 2:
		for i, tag := range s.Tags {
			if !label(tag) || i > 15 || i > 0 && s.Tags[i-1] >= tag {
				return false
			}
		}
		return label(s.Node) && label(s.Id) && label(s.Name) && s.Port >= 1 && s.Port <= 65535
	case 3:
		return label(c.Node) && label(c.Id) && (c.Service == "" || label(c.Service)) && c.Status >= 1 && c.Status <= 3 && noteForm.MatchString(c.Note)
	case 4:
		return label(n.Name)
	case 5:
		return label(s.Node) && label(s.Id)
	case 6:
		return label(c.Node) && label(c.Id)
	}
	return false
}

// bare: the operation with no list instead of an empty one.
func bare(o api.Op) api.Op {
	if len(o.Service.Tags) == 0 {
		o.Service.Tags = nil
	}
	return o
}

func sameOps(a, b []api.Op) bool {
	return slices.EqualFunc(a, b, func(o, p api.Op) bool { return reflect.DeepEqual(bare(o), bare(p)) })
}

func sameEntry(a, b api.Entry) bool { return a.Index == b.Index && sameOps(a.Ops, b.Ops) }

func sameEntries(a, b []api.Entry) bool { return slices.EqualFunc(a, b, sameEntry) }

func modelText(b []byte, text string) []byte {
	return append(append(b, uint8(len(text))), text...)
}

func modelPayload(e api.Entry) []byte {
	b := binary.BigEndian.AppendUint64(nil, e.Index)
	b = append(b, uint8(len(e.Ops)))
	for _, o := range e.Ops {
		b = append(b, uint8(o.Kind), 0)
		if o.Cas {
			b[len(b)-1] = 1
			b = binary.BigEndian.AppendUint64(b, o.Want)
		}
		n, s, c := o.Node, o.Service, o.Check
		switch o.Kind {
		case 1:
			b = modelText(modelText(b, n.Name), n.Addr)
		case 2:
			b = modelText(modelText(modelText(b, s.Node), s.Id), s.Name)
			b = append(binary.BigEndian.AppendUint16(b, uint16(s.Port)), uint8(len(s.Tags)))
			for _, tag := range s.Tags {
				b = modelText(b, tag)
			}
		case 3:
			b = modelText(modelText(modelText(b, c.Node), c.Id), c.Service)
			b = modelText(append(b, uint8(c.Status)), c.Note)
		case 4:
			b = modelText(b, n.Name)
		case 5:
			b = modelText(modelText(b, s.Node), s.Id)
		case 6:
			b = modelText(modelText(b, c.Node), c.Id)
		}
	}
	return b
}

// framed: the payload in a frame, whatever it says.
func framed(payload []byte) []byte {
	b := binary.BigEndian.AppendUint32([]byte{77}, uint32(len(payload)))
	return binary.BigEndian.AppendUint32(append(b, payload...), crc32.ChecksumIEEE(payload))
}

func modelFrame(e api.Entry) []byte { return framed(modelPayload(e)) }

// modelRead: the sound entry with that payload, if there is one.
func modelRead(b []byte) (e api.Entry, ok bool) {
	defer func() {
		if recover() != nil {
			e, ok = api.Entry{}, false
		}
	}()
	at := 0
	small := func() int {
		at++
		return int(b[at-1])
	}
	text := func() string {
		length := small()
		at += length
		return string(b[at-length : at])
	}
	e.Index = binary.BigEndian.Uint64(b)
	at = 8
	for left := small(); left > 0; left-- {
		o := api.Op{Kind: small()}
		if cas := small(); cas > 1 {
			panic("neither")
		} else if cas == 1 {
			o.Cas, o.Want = true, binary.BigEndian.Uint64(b[at:])
			at += 8
		}
		n, s, c := &o.Node, &o.Service, &o.Check
		switch o.Kind {
		case 1:
			n.Name, n.Addr = text(), text()
		case 2:
			s.Node, s.Id, s.Name = text(), text(), text()
			s.Port = small() * 256
			s.Port += small()
			for tags := small(); tags > 0; tags-- {
				s.Tags = append(s.Tags, text())
			}
		case 3:
			c.Node, c.Id, c.Service, c.Status, c.Note = text(), text(), text(), small(), text()
		case 4:
			n.Name = text()
		case 5:
			s.Node, s.Id = text(), text()
		case 6:
			c.Node, c.Id = text(), text()
		}
		e.Ops = append(e.Ops, o)
	}
	if at != len(b) || !modelSound(e) {
		return api.Entry{}, false
	}
	return e, true
}

func modelDecode(b []byte) (api.Entry, int, api.Errno) {
	switch {
	case len(b) == 0:
		return api.Entry{}, 0, 131
	case b[0] != 77:
		return api.Entry{}, 0, 132
	case len(b) < 5:
		return api.Entry{}, 0, 131
	}
	length := int64(binary.BigEndian.Uint32(b[1:]))
	switch {
	case length > 131072:
		return api.Entry{}, 0, 132
	case int64(len(b)) < 5+length+4:
		return api.Entry{}, 0, 131
	case crc32.ChecksumIEEE(b[5:5+length]) != binary.BigEndian.Uint32(b[5+length:]):
		return api.Entry{}, 0, 132
	}
	e, ok := modelRead(b[5 : 5+length])
	if !ok {
		return api.Entry{}, 0, 133
	}
	return e, int(5 + length + 4), 0
}
