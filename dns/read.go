package dns

import (
	"slices"

	"muster/api"
)

// How long parts of an answer are: what stands between its name and its data, and ahead of a service's target.
const (
	midLen     = 10
	serviceLen = 6
)

// head is a message's first twelve bytes.
type head struct {
	id, flags, questions, answers, authorities, additionals uint16
}

func number16(b []byte) uint16 { return uint16(b[0])<<8 | uint16(b[1]) }

func number32(b []byte) uint32 { return uint32(number16(b))<<16 | uint32(number16(b[2:])) }

// readHead: the head of a message that has one.
func readHead(b []byte) head {
	return head{
		id: number16(b), flags: number16(b[2:]),
		questions: number16(b[4:]), answers: number16(b[6:]),
		authorities: number16(b[8:]), additionals: number16(b[10:]),
	}
}

// readQuestion: what the head and the question behind it ask, and the place behind the question.
func readQuestion(b []byte, h head) (api.DnsQuery, int, api.Errno) {
	labels, at, err := readPlain(b, headLen)
	if err != api.OK {
		return api.DnsQuery{}, 0, err
	}
	if len(b) < at+4 {
		return api.DnsQuery{}, 0, api.ErrDnsShort
	}
	return api.DnsQuery{
		Id: h.id, Opcode: int(h.flags >> opShift & maxBits), Wish: h.flags&flagRD != 0,
		Labels: labels, Type: number16(b[at:]), Class: number16(b[at+2:]),
	}, at + 4, api.OK
}

// readRecords: so many answers to the question of that name, which must end where the message ends.
func readRecords(b []byte, at, count int, asked []string) ([]api.DnsRecord, api.Errno) {
	var records []api.DnsRecord
	for range count {
		rec, next, err := readRecord(b, at, asked)
		if err != api.OK {
			return nil, err
		}
		records = append(records, rec)
		at = next
	}
	if at < len(b) {
		return nil, api.ErrDnsForm
	}
	return records, api.OK
}

// readRecord: the answer that begins at a place, and the place behind it.
func readRecord(b []byte, at int, asked []string) (api.DnsRecord, int, api.Errno) {
	labels, at, err := readPointed(b, at)
	if err != api.OK {
		return api.DnsRecord{}, 0, err
	}
	if !slices.Equal(labels, asked) {
		return api.DnsRecord{}, 0, api.ErrDnsForm
	}
	if len(b) < at+midLen {
		return api.DnsRecord{}, 0, api.ErrDnsShort
	}
	mid, data := b[at:at+midLen], at+midLen
	rec := api.DnsRecord{Type: number16(mid), Ttl: number32(mid[4:])}
	if !isKnown(rec.Type) || number16(mid[2:]) != api.ClassIN {
		return api.DnsRecord{}, 0, api.ErrDnsForm
	}
	end := data + int(number16(mid[8:]))
	if len(b) < end {
		return api.DnsRecord{}, 0, api.ErrDnsShort
	}
	if err := readData(&rec, b, data, end); err != api.OK {
		return api.DnsRecord{}, 0, err
	}
	return rec, end, api.OK
}

func readData(rec *api.DnsRecord, b []byte, data, end int) api.Errno {
	if rec.Type == api.TypeA {
		return readAddr(rec, b[data:end])
	}
	return readService(rec, b, data, end)
}

func readAddr(rec *api.DnsRecord, data []byte) api.Errno {
	if len(data) != len(rec.Addr) {
		return api.ErrDnsForm
	}
	copy(rec.Addr[:], data)
	return api.OK
}

// readService needs the whole message: a target may be pointed at, and is read on behind its data's end.
func readService(rec *api.DnsRecord, b []byte, data, end int) api.Errno {
	if end-data < serviceLen || number16(b[data:]) != 1 || number16(b[data+2:]) != 1 {
		return api.ErrDnsForm
	}
	target, behind, err := readPointed(b, data+serviceLen)
	if err != api.OK {
		return err
	}
	if behind != end {
		return api.ErrDnsForm
	}
	rec.Port, rec.Target = number16(b[data+4:]), target
	return api.OK
}
