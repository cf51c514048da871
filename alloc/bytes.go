package alloc

import (
	"bytes"

	"cartulary/api"
	"cartulary/codec"
)

// perByte is how many blocks a byte tells of.
const perByte = 8

// Bytes is the map as bytes; Read reads it.
func (m *Map) Bytes() []byte {
	if m == nil {
		return nil
	}
	return append(codec.PutUint(nil, uint64(m.blocks)), m.bits()...)
}

func (m *Map) bits() []byte {
	b := make([]byte, (m.blocks+perByte-1)/perByte)
	for n := range m.blocks {
		if m.used[n] {
			b[n/perByte] |= 1 << (n % perByte)
		}
	}
	return b
}

// Read reads a map that Bytes told.
func Read(b []byte) (*Map, api.Errno) {
	blocks, k, e := codec.Uint(b)
	if e != api.OK || blocks > api.MaxBlocks {
		return nil, api.ErrAllocForm
	}
	m := New(int(blocks))
	m.fill(b[k:])
	m.Commit()
	// The promise is told by Bytes, so Bytes judges what was read.
	if !bytes.Equal(m.Bytes(), b) {
		return nil, api.ErrAllocForm
	}
	return m, api.OK
}

// fill takes of the bits as many as there are and as the map has blocks.
func (m *Map) fill(bits []byte) {
	for n := range min(m.blocks, perByte*len(bits)) {
		m.used[n] = bits[n/perByte]>>(n%perByte)&1 == 1
	}
}
