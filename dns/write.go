package dns

import "muster/api"

func append16(b []byte, numbers ...uint16) []byte {
	for _, n := range numbers {
		b = append(b, byte(n>>8), byte(n))
	}
	return b
}

// isBits: does the number fit into four bits?
func isBits(n int) bool { return n >= 0 && n <= maxBits }

func isKnown(kind uint16) bool { return kind == api.TypeA || kind == api.TypeSRV }

// checkReply: what is wrong with the reply, whatever the limit.
func checkReply(r api.DnsReply) api.Errno {
	if !isBits(r.Query.Opcode) || !isBits(r.Rcode) {
		return api.ErrDnsForm
	}
	for _, rec := range r.Records {
		if !isKnown(rec.Type) {
			return api.ErrDnsForm
		}
	}
	if !isName(r.Query.Labels) {
		return api.ErrDnsName
	}
	for _, rec := range r.Records {
		if rec.Type == api.TypeSRV && !isName(rec.Target) {
			return api.ErrDnsName
		}
	}
	return api.OK
}

// appendHead: the head of a message with the query as its question, so many answers, and these flags beside the query's own.
func appendHead(b []byte, q api.DnsQuery, flags uint16, answers int) []byte {
	flags |= uint16(q.Opcode) << opShift
	if q.Wish {
		flags |= flagRD
	}
	return append16(b, q.Id, flags, 1, uint16(answers), 0, 0)
}

func appendQuestion(b []byte, q api.DnsQuery) []byte {
	return append16(appendName(b, q.Labels), q.Type, q.Class)
}

func questionLen(q api.DnsQuery) int { return nameLen(q.Labels) + 4 }

// fitting: the first ones of the records that have room.
func fitting(records []api.DnsRecord, room int) []api.DnsRecord {
	for i, rec := range records {
		if room -= 2 + midLen + dataLen(rec); room < 0 {
			return records[:i]
		}
	}
	return records
}

// dataLen: how many bytes the record's data has on the wire.
func dataLen(rec api.DnsRecord) int {
	if rec.Type == api.TypeA {
		return len(rec.Addr)
	}
	return serviceLen + nameLen(rec.Target)
}

func appendRecord(b []byte, rec api.DnsRecord) []byte {
	// A reply's records bear the question's name: it begins behind the head.
	b = append16(b, pointerMark<<8|headLen, rec.Type, api.ClassIN, uint16(rec.Ttl>>16), uint16(rec.Ttl), uint16(dataLen(rec)))
	if rec.Type == api.TypeA {
		return append(b, rec.Addr[:]...)
	}
	return appendName(append16(b, 1, 1, rec.Port), rec.Target)
}
