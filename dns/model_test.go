package dns

import (
	"encoding/binary"
	"slices"

	"muster/api"
)

// A plain reading of the chapter: a page is read byte by byte, and given up by a panic where the chapter has an error.
type page struct {
	b  []byte
	at int
}

func (p *page) one() int {
	if p.at >= len(p.b) {
		panic(api.Errno(200))
	}
	p.at++
	return int(p.b[p.at-1])
}

func (p *page) two() int  { return p.one()*256 + p.one() }
func (p *page) four() int { return p.two()*65536 + p.two() }

func need(holds bool, otherwise api.Errno) {
	if !holds {
		panic(otherwise)
	}
}

// name: the labels from here on, behind so many bytes of the same name.
func (p *page) name(pointed bool, before int) []string {
	begin := p.at
	var found []string
	for {
		n := p.one()
		if n >= 192 && pointed {
			to := n%64*256 + p.one()
			need(to < begin, 201)
			rest := page{p.b, to}
			return append(found, rest.name(true, before)...)
		}
		if n == 0 {
			return found
		}
		need(n < 64 && before+1+n+1 <= 255, 201)
		label := ""
		for range n {
			label += string([]byte{byte(p.one())})
		}
		found = append(found, label)
		before += 1 + n
	}
}

// caught sets the error to what a page was given up with.
func caught(err *api.Errno) {
	if fault := recover(); fault != nil {
		*err = fault.(api.Errno)
	}
}

func (p *page) question(id, flags int) api.DnsQuery {
	name := p.name(false, 0)
	return api.DnsQuery{
		Id: uint16(id), Opcode: flags / 2048 % 16, Wish: flags/256%2 == 1,
		Labels: name, Type: uint16(p.two()), Class: uint16(p.two()),
	}
}

func modelQuery(b []byte) (q api.DnsQuery, err api.Errno) {
	defer caught(&err)
	need(len(b) >= 12, 200)
	p := page{b: b}
	id, flags, questions, answers, authorities := p.two(), p.two(), p.two(), p.two(), p.two()
	p.two()
	need(flags < 32768 && flags/512%2 == 0, 202)
	need(questions == 1 && answers == 0 && authorities == 0, 202)
	return p.question(id, flags), 0
}

func modelReply(b []byte) (r api.DnsReply, err api.Errno) {
	defer caught(&err)
	need(len(b) >= 12, 200)
	p := page{b: b}
	id, flags, questions, answers, authorities, additionals := p.two(), p.two(), p.two(), p.two(), p.two(), p.two()
	need(flags >= 32768 && flags/1024%2 == 1 && flags/16%16 == 0, 202)
	need(questions == 1 && authorities == 0 && additionals == 0, 202)
	q := p.question(id, flags)
	var records []api.DnsRecord
	for range answers {
		records = append(records, p.record(q.Labels))
	}
	need(p.at == len(b), 202)
	return api.DnsReply{Query: q, Rcode: flags % 16, Cut: flags/512%2 == 1, Records: records}, 0
}

func (p *page) record(asked []string) api.DnsRecord {
	need(slices.Equal(p.name(true, 0), asked), 202)
	kind, class, ttl, size := p.two(), p.two(), p.four(), p.two()
	need((kind == 1 || kind == 33) && class == 1, 202)
	end := p.at + size
	need(end <= len(p.b), 200)
	rec := api.DnsRecord{Type: uint16(kind), Ttl: uint32(ttl)}
	if kind == 1 {
		need(size == 4, 202)
		for i := range 4 {
			rec.Addr[i] = byte(p.one())
		}
		return rec
	}
	need(size >= 6, 202)
	priority, weight, port := p.two(), p.two(), p.two()
	need(priority == 1 && weight == 1, 202)
	rec.Port, rec.Target = uint16(port), p.name(true, 0)
	need(p.at == end, 202)
	return rec
}

func wireName(b []byte, name []string) []byte {
	for _, label := range name {
		b = append(append(b, byte(len(label))), label...)
	}
	return append(b, 0)
}

// modelBytes: the reply with all of its records, whatever the limit.
func modelBytes(r api.DnsReply) []byte {
	flags := 32768 + 2048*r.Query.Opcode + 1024 + r.Rcode
	if r.Cut {
		flags += 512
	}
	if r.Query.Wish {
		flags += 256
	}
	b := modelMessage(r.Query, flags, len(r.Records))
	for _, rec := range r.Records {
		b = append(b, 192, 12)
		b = binary.BigEndian.AppendUint16(b, rec.Type)
		b = append(b, 0, 1)
		b = binary.BigEndian.AppendUint32(b, rec.Ttl)
		data := rec.Addr[:]
		if rec.Type == 33 {
			data = binary.BigEndian.AppendUint16([]byte{0, 1, 0, 1}, rec.Port)
			data = wireName(data, rec.Target)
		}
		b = append(binary.BigEndian.AppendUint16(b, uint16(len(data))), data...)
	}
	return b
}

func modelMessage(q api.DnsQuery, flags, answers int) []byte {
	var b []byte
	for _, n := range []int{int(q.Id), flags, 1, answers, 0, 0} {
		b = binary.BigEndian.AppendUint16(b, uint16(n))
	}
	b = wireName(b, q.Labels)
	b = binary.BigEndian.AppendUint16(b, q.Type)
	return binary.BigEndian.AppendUint16(b, q.Class)
}

// modelFit: the reply as it can be written within the limit, if it can be.
func modelFit(r api.DnsReply, limit int) (api.DnsReply, bool) {
	for count := len(r.Records); count >= 0; count-- {
		fit := r
		fit.Records, fit.Cut = r.Records[:count], r.Cut || count < len(r.Records)
		if len(modelBytes(fit)) <= limit {
			return fit, true
		}
	}
	return api.DnsReply{}, false
}

func wrongName(name []string) bool {
	return slices.ContainsFunc(name, func(label string) bool { return len(label) < 1 || len(label) > 63 }) || len(wireName(nil, name)) > 255
}

func modelEncode(r api.DnsReply, limit int) ([]byte, api.Errno) {
	wrong := r.Query.Opcode < 0 || r.Query.Opcode > 15 || r.Rcode < 0 || r.Rcode > 15
	nameless := wrongName(r.Query.Labels)
	for _, rec := range r.Records {
		wrong = wrong || rec.Type != 1 && rec.Type != 33
		nameless = nameless || rec.Type == 33 && wrongName(rec.Target)
	}
	if wrong {
		return nil, 202
	}
	if nameless {
		return nil, 201
	}
	fit, ok := modelFit(r, limit)
	if !ok || limit > 65535 {
		return nil, 203
	}
	return modelBytes(fit), 0
}

// plain: the reply without what the records' types don't use.
func plain(r api.DnsReply) api.DnsReply {
	r.Records = slices.Clone(r.Records)
	for i, rec := range r.Records {
		if rec.Type == 1 {
			r.Records[i].Port, r.Records[i].Target = 0, nil
		} else {
			r.Records[i].Addr = [4]byte{}
		}
	}
	return r
}

func sameQuery(a, b api.DnsQuery) bool {
	return a.Id == b.Id && a.Opcode == b.Opcode && a.Wish == b.Wish && slices.Equal(a.Labels, b.Labels) && a.Type == b.Type && a.Class == b.Class
}

func sameRecord(a, b api.DnsRecord) bool {
	return a.Type == b.Type && a.Ttl == b.Ttl && a.Addr == b.Addr && a.Port == b.Port && slices.Equal(a.Target, b.Target)
}

func sameReply(a, b api.DnsReply) bool {
	return sameQuery(a.Query, b.Query) && a.Rcode == b.Rcode && a.Cut == b.Cut && slices.EqualFunc(a.Records, b.Records, sameRecord)
}
