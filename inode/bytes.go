package inode

import (
	"bytes"

	"cartulary/api"
	"cartulary/codec"
)

// Bytes is it as bytes; Read reads one.
func (f *Node) Bytes() []byte {
	if f == nil {
		return nil
	}
	b := put(nil, f.size, len(f.runs))
	for _, r := range f.runs {
		b = put(b, r.From, r.Len)
	}
	return b
}

// put lays two numbers that are not below 0.
func put(b []byte, first, second int) []byte {
	return codec.PutUint(codec.PutUint(b, uint64(first)), uint64(second))
}

// Read reads a node that Bytes told, whatever is behind it.
func Read(b []byte) (*Node, int, api.Errno) {
	size, l, ok := parts(b)
	f := New()
	if !ok || f.Extend(size, l) != api.OK {
		return nil, 0, api.ErrInodeForm
	}
	// The promise is told by Bytes, so Bytes judges what was read: runs that should have been one are one there.
	told := f.Bytes()
	if !bytes.HasPrefix(b, told) {
		return nil, 0, api.ErrInodeForm
	}
	return f, len(told), api.OK
}

// parts is a size and runs, if b begins with their numbers; whether they may be is not asked.
func parts(b []byte) (int, []api.Run, bool) {
	head, rest, ok := numbers(b, 2)
	if !ok {
		return 0, nil, false
	}
	ends, _, ok := numbers(rest, 2*head[1])
	var l []api.Run
	for i := 0; i < len(ends); i += 2 {
		l = append(l, api.Run{From: ends[i], Len: ends[i+1]})
	}
	return head[0], l, ok
}

// numbers is so many numbers, and what is behind them. The greatest that a node tells is a size.
func numbers(b []byte, count int) ([]int, []byte, bool) {
	var l []int
	for range count {
		n, k, e := codec.Uint(b)
		if e != api.OK || n > api.MaxFile {
			return nil, nil, false
		}
		l, b = append(l, int(n)), b[k:]
	}
	return l, b, true
}
