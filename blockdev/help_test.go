package blockdev

import (
	"bytes"
	"slices"
	"testing"

	"cartulary/api"
)

const (
	most  = 1<<63 - 1
	least = -1 << 63
)

// full is a block of one byte.
func full(c byte) []byte { return bytes.Repeat([]byte{c}, api.BlockSize) }

// made is a new device.
func made(t *testing.T, blocks int) *Device {
	t.Helper()
	d, e := New(blocks)
	if d == nil || e != api.OK {
		t.Fatalf("New(%d): %v", blocks, e)
	}
	return d
}

// put writes, and that goes well.
func put(t *testing.T, d *Device, n int, c byte) {
	t.Helper()
	if e := d.Write(n, full(c)); e != api.OK {
		t.Fatalf("Write(%d): %v", n, e)
	}
}

// flush flushes, and that goes well.
func flush(t *testing.T, d *Device) {
	t.Helper()
	if e := d.Flush(); e != api.OK {
		t.Fatalf("Flush: %v", e)
	}
}

// holds asks whether a block is all of one byte, of a copy, so that no operation is counted and no fuse burns.
func holds(t *testing.T, d *Device, n int, c byte) {
	t.Helper()
	if got := look(d).blocks[n]; !bytes.Equal(got, full(c)) {
		t.Errorf("block %d: %q, not %q", n, got[:1], c)
	}
}

// state is all that can be told of a device.
type state struct {
	down    bool
	ops     int
	left    int // the operations that go well, -1 where there is no fuse
	pending []int
	blocks  [][]byte   // as they were written last
	kept    [][][]byte // of each block with pending writes, what each pick leaves
}

// look tells it, and does all that it does on copies.
func look(d *Device) state {
	s := state{down: d.Down(), ops: d.Ops(), left: left(d), pending: d.Pending()}
	up := risen(d)
	for n := range d.Blocks() {
		b, _ := up.Read(n)
		s.blocks = append(s.blocks, b)
	}
	for i, n := range s.pending {
		s.kept = append(s.kept, kept(d, i, n))
	}
	return s
}

// left burns the fuse of a copy down.
func left(d *Device) int {
	c := d.Copy()
	for k := range 20 {
		if c.Flush() != api.OK {
			return k
		}
	}
	return -1
}

// risen is a copy that is up and has no fuse, with all its writes pending still.
func risen(d *Device) *Device {
	c := d.Copy()
	c.down, c.fused = false, false
	return c
}

// kept is what the picks 0 to 9 leave of the i-th block with pending writes.
func kept(d *Device, i, n int) [][]byte {
	var all [][]byte
	for pick := range 10 {
		c := d.Copy()
		picks := make([]int, i+1)
		picks[i] = pick
		c.Crash(picks)
		b, _ := c.Read(n)
		all = append(all, b)
	}
	return all
}

// same holds two devices' states against each other.
func same(a, b state) bool {
	bytesSame := func(x, y []byte) bool { return bytes.Equal(x, y) }
	listsSame := func(x, y [][]byte) bool { return slices.EqualFunc(x, y, bytesSame) }
	return a.down == b.down && a.ops == b.ops && a.left == b.left && slices.Equal(a.pending, b.pending) &&
		slices.EqualFunc(a.blocks, b.blocks, bytesSame) && slices.EqualFunc(a.kept, b.kept, listsSame)
}

// still does something that may change nothing.
func still(t *testing.T, name string, d *Device, do func()) {
	t.Helper()
	before := look(d)
	do()
	if !same(before, look(d)) {
		t.Errorf("%s has changed something", name)
	}
}
