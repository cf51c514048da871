package codec

import (
	"bytes"

	"cartulary/api"
)

// castagnoli is the polynomial of CRC-32C, its bits reversed.
const castagnoli = 0x82f63b78

// sumTable is what eight steps of the checksum make of each byte.
type sumTable [256]uint32

// makeSumTable takes few steps, since every call that sums makes a table anew: what the steps make of the xor of two bytes is the xor of what they make of each, so the eight bytes of one bit give all others.
func makeSumTable() sumTable {
	var t sumTable
	r := uint32(castagnoli)
	for bit := 128; bit > 0; bit /= 2 {
		t[bit] = r
		odd := r&1 == 1
		r >>= 1
		if odd {
			r ^= castagnoli
		}
	}
	for i := 1; i < len(t); i++ {
		low := i & -i
		t[i] = t[low] ^ t[i^low]
	}
	return t
}

func (t *sumTable) sum(b []byte) uint32 {
	r := ^uint32(0)
	for _, c := range b {
		r = r>>8 ^ t[byte(r)^c]
	}
	return ^r
}

// Sum is the checksum of bytes.
func Sum(b []byte) uint32 {
	t := makeSumTable()
	return t.sum(b)
}

// sumBytes and headBytes: a frame begins with its sum, and the byte of its kind ends its head.
const (
	sumBytes  = 4
	headBytes = sumBytes + 1
)

// PutFrame appends a frame.
func PutFrame(b []byte, f api.Frame) ([]byte, api.Errno) {
	if len(f.Data) > api.MaxFrame {
		return nil, api.ErrCodecLong
	}
	body := layUint([]byte{f.Kind}, uint64(len(f.Data)))
	body = append(body, f.Data...)
	return append(Put32(b, Sum(body)), body...), api.OK
}

// Frame reads one: it, and how many bytes it has.
func Frame(b []byte) (api.Frame, int, api.Errno) {
	t := makeSumTable()
	return readFrame(b, &t)
}

// readFrame is handed the table, so that a scan makes one for all its frames.
func readFrame(b []byte, t *sumTable) (api.Frame, int, api.Errno) {
	if len(b) < headBytes {
		return api.Frame{}, 0, api.ErrCodecShort
	}
	data, k, e := piece(b[headBytes:], api.MaxFrame)
	if e != api.OK {
		return api.Frame{}, 0, e
	}
	end := headBytes + k
	if want, _ := U32(b); want != t.sum(b[sumBytes:end]) {
		return api.Frame{}, 0, api.ErrCodecForm
	}
	return api.Frame{Kind: b[sumBytes], Data: bytes.Clone(data)}, end, api.OK
}

// Scan reads frames, as long as they are right: them, and how many bytes they have.
func Scan(b []byte) ([]api.Frame, int) {
	t := makeSumTable()
	var frames []api.Frame
	at := 0
	for {
		f, k, e := readFrame(b[at:], &t)
		if e != api.OK {
			return frames, at
		}
		frames = append(frames, f)
		at += k
	}
}
