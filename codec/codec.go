// Package codec is layer 1: numbers, texts, frames, events as bytes: see shared/doc/01-codec.md.
package codec

import (
	"cartulary/api"
)

// mostNumber is how many bytes a number of 64 bits has at most: nine of seven bits, and one of a single bit.
const mostNumber = 10

// closed is b without its spare room, so that an append to it goes to new memory and the owner's room is not written.
func closed(b []byte) []byte { return b[:len(b):len(b)] }

// PutUint appends a number.
func PutUint(b []byte, n uint64) []byte { return layUint(closed(b), n) }

// layUint writes into b's spare room: b is the program's own, or closed.
func layUint(b []byte, n uint64) []byte {
	for n >= 128 {
		b = append(b, byte(n)|128)
		n >>= 7
	}
	return append(b, byte(n))
}

// Uint reads one: it, and how many bytes it has.
func Uint(b []byte) (uint64, int, api.Errno) {
	var n uint64
	for i := range min(len(b), mostNumber) {
		c := b[i]
		n |= uint64(c&127) << (7 * i)
		if c >= 128 {
			continue
		}
		if i > 0 && c == 0 || i == mostNumber-1 && c > 1 {
			return 0, 0, api.ErrCodecForm
		}
		return n, i + 1, api.OK
	}
	if len(b) < mostNumber {
		return 0, 0, api.ErrCodecShort
	}
	return 0, 0, api.ErrCodecForm
}

// PutInt appends an integer.
func PutInt(b []byte, n int) []byte { return layInt(closed(b), n) }

// layInt writes into b's spare room, as layUint does. Below 0, ^n is -n - 1, which the least integer has too.
func layInt(b []byte, n int) []byte {
	if n < 0 {
		return layUint(b, 2*uint64(^n)+1)
	}
	return layUint(b, 2*uint64(n))
}

// Int reads one.
func Int(b []byte) (int, int, api.Errno) {
	u, k, e := Uint(b)
	if e != api.OK {
		return 0, 0, e
	}
	n := int(u / 2)
	if u%2 == 1 {
		n = ^n
	}
	return n, k, api.OK
}

// PutText appends a text.
func PutText(b []byte, s string) []byte { return layText(closed(b), s) }

// layText writes into b's spare room, as layUint does.
func layText(b []byte, s string) []byte {
	return append(layUint(b, uint64(len(s))), s...)
}

// Text reads one of at most so many bytes.
func Text(b []byte, most int) (string, int, api.Errno) {
	p, k, e := piece(b, most)
	return string(p), k, e
}

// piece reads a number and so many bytes, as texts and frames have them. It answers a part of b itself: whoever hands it on copies it.
func piece(b []byte, most int) ([]byte, int, api.Errno) {
	n, k, e := Uint(b)
	switch {
	case e != api.OK:
		return nil, 0, e
	case most < 0 || n > uint64(most):
		return nil, 0, api.ErrCodecLong
	case n > uint64(len(b)-k):
		return nil, 0, api.ErrCodecShort
	}
	end := k + int(n)
	return b[k:end], end, api.OK
}

// Put32 appends a number of four bytes; U32 reads one.
func Put32(b []byte, n uint32) []byte {
	return append(closed(b), byte(n), byte(n>>8), byte(n>>16), byte(n>>24))
}

func U32(b []byte) (uint32, api.Errno) {
	if len(b) < 4 {
		return 0, api.ErrCodecShort
	}
	return uint32(b[0]) | uint32(b[1])<<8 | uint32(b[2])<<16 | uint32(b[3])<<24, api.OK
}
