package journal

import "muster/api"

// How many bytes the numbers of a payload take: indexes and ports. (All others, lengths of texts too, take one.)
const (
	indexSize = 8
	portSize  = 2
)

// The byte behind an operation's kind: is it a compare-and-set?
const (
	casNo = iota
	casYes
)

// writePayload: the payload of a sound entry, whose numbers and texts all fit into their bytes.
func writePayload(e api.Entry) []byte {
	b := writeNumber(nil, e.Index, indexSize)
	b = append(b, byte(len(e.Ops)))
	for _, o := range e.Ops {
		b = writeOp(b, o)
	}
	return b
}

func writeOp(b []byte, o api.Op) []byte {
	b = append(b, byte(o.Kind))
	b = writeCas(b, o)
	switch o.Kind {
	case api.OpNode:
		return writeTexts(b, o.Node.Name, o.Node.Addr)
	case api.OpService:
		return writeService(b, o.Service)
	case api.OpCheck:
		return writeCheck(b, o.Check)
	case api.DropNode:
		return writeTexts(b, o.Node.Name)
	case api.DropService:
		return writeTexts(b, o.Service.Node, o.Service.Id)
	}
	return writeTexts(b, o.Check.Node, o.Check.Id)
}

func writeCas(b []byte, o api.Op) []byte {
	if !o.Cas {
		return append(b, casNo)
	}
	return writeNumber(append(b, casYes), o.Want, indexSize)
}

func writeService(b []byte, s api.Service) []byte {
	b = writeTexts(b, s.Node, s.Id, s.Name)
	b = writeNumber(b, uint64(s.Port), portSize)
	b = append(b, byte(len(s.Tags)))
	return writeTexts(b, s.Tags...)
}

func writeCheck(b []byte, c api.Check) []byte {
	b = writeTexts(b, c.Node, c.Id, c.Service)
	b = append(b, byte(c.Status))
	return writeTexts(b, c.Note)
}

func writeTexts(b []byte, texts ...string) []byte {
	for _, text := range texts {
		b = append(b, byte(len(text)))
		b = append(b, text...)
	}
	return b
}

// writeNumber: the lowest bytes of n, so many of them, the highest one first.
func writeNumber(b []byte, n uint64, size int) []byte {
	for place := size - 1; place >= 0; place-- {
		b = append(b, byte(n>>(8*place)))
	}
	return b
}
