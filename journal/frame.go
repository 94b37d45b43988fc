package journal

import "muster/api"

// frameMark is the byte with which every frame begins.
const frameMark = 77

// How many bytes the parts of a frame take that stand around its payload.
const (
	markSize   = 1
	lengthSize = 4
	headSize   = markSize + lengthSize
	sumSize    = 4
)

// sumBits is put into the sum for each set bit that falls out of it.
const sumBits = 0xEDB88320

// Sum: the sum of the bytes.
func Sum(b []byte) uint32 {
	sum := ^uint32(0)
	for _, next := range b {
		sum ^= uint32(next)
		for range 8 {
			// The lowest bit, 1 or 0, says whether sumBits comes in. An if would be a guess for the processor, wrong every other time: four times as slow.
			sum = sum>>1 ^ sumBits*(sum&1)
		}
	}
	return ^sum
}

// Encode: the frame of an entry.
func Encode(e api.Entry) ([]byte, api.Errno) {
	if !isSound(e) {
		return nil, api.ErrEntry
	}
	// No payload of a sound entry comes near MaxFrame: 64 services with all that they can have take less than 80000 bytes.
	payload := writePayload(e)
	frame := make([]byte, 0, headSize+len(payload)+sumSize)
	frame = append(frame, frameMark)
	frame = writeNumber(frame, uint64(len(payload)), lengthSize)
	frame = append(frame, payload...)
	return writeNumber(frame, uint64(Sum(payload)), sumSize), api.OK
}

// Decode: the entry of the frame with which b begins.
func Decode(b []byte) (api.Entry, int, api.Errno) {
	payload, err := payloadOf(b)
	if err != api.OK {
		return api.Entry{}, 0, err
	}
	e, ok := readPayload(payload)
	if !ok {
		return api.Entry{}, 0, api.ErrPayload
	}
	return e, headSize + len(payload) + sumSize, api.OK
}

// payloadOf: the payload of the frame with which b begins, a piece of b.
func payloadOf(b []byte) ([]byte, api.Errno) {
	if len(b) == 0 {
		return nil, api.ErrShort
	}
	if b[0] != frameMark {
		return nil, api.ErrFrame
	}
	if len(b) < headSize {
		return nil, api.ErrShort
	}
	length, rest := readNumber(b[markSize:headSize]), b[headSize:]
	if length > api.MaxFrame {
		return nil, api.ErrFrame
	}
	if uint64(len(rest)) < length+sumSize {
		return nil, api.ErrShort
	}
	payload, sum := rest[:length], rest[length:length+sumSize]
	if readNumber(sum) != uint64(Sum(payload)) {
		return nil, api.ErrFrame
	}
	return payload, api.OK
}
