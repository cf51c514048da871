package blockdev

import (
	"bytes"
	"slices"
	"testing"

	"cartulary/api"
)

// The errors' numbers.
func TestErrors(t *testing.T) {
	for e, n := range map[api.Errno]int{api.ErrArg: 1, api.ErrDown: 2, api.ErrBlock: 20, api.ErrSize: 21} {
		if int(e) != n {
			t.Errorf("%d is not %d", int(e), n)
		}
	}
}

// P2.1: how many blocks may be, and what a new device is.
func TestNew(t *testing.T) {
	for _, n := range []int{least, -64, -1, 0, 1, 63, 513, 1024, most} {
		if d, e := New(n); d != nil || e != api.ErrSize {
			t.Errorf("New(%d): %v %v", n, d, e)
		}
	}
	for _, n := range []int{64, 65, 256, 511, 512} {
		d := made(t, n)
		if d.Blocks() != n || d.Down() || d.Ops() != 0 || len(d.Pending()) != 0 {
			t.Errorf("New(%d): %d blocks, down %v, %d operations, pending %v", n, d.Blocks(), d.Down(), d.Ops(), d.Pending())
		}
		for i := range n {
			if b, e := d.Read(i); !bytes.Equal(b, full(0)) || e != api.OK {
				t.Fatalf("New(%d), block %d: %v %v", n, i, b, e)
			}
		}
		if d.Ops() != n || d.Down() {
			t.Errorf("New(%d) has a fuse", n)
		}
	}
}

// P2.1: devices are not one another.
func TestNewOnesAreApart(t *testing.T) {
	a, b := made(t, 64), made(t, 64)
	put(t, a, 3, 'a')
	flush(t, a)
	put(t, a, 4, 'a')
	holds(t, b, 3, 0)
	holds(t, b, 4, 0)
	if b.Ops() != 0 || len(b.Pending()) != 0 {
		t.Errorf("another device: %d operations, pending %v", b.Ops(), b.Pending())
	}
}

// P2.2: there are the blocks 0 to the last one.
func TestBlockNumbers(t *testing.T) {
	for _, blocks := range []int{64, 512} {
		d := made(t, blocks)
		for _, n := range []int{least, -blocks, -1, blocks, blocks + 1, most} {
			still(t, "no block", d, func() {
				if b, e := d.Read(n); len(b) != 0 || e != api.ErrBlock {
					t.Errorf("%d blocks, Read(%d): %d bytes, %v", blocks, n, len(b), e)
				}
				if e := d.Write(n, full('a')); e != api.ErrBlock {
					t.Errorf("%d blocks, Write(%d): %v", blocks, n, e)
				}
			})
		}
		for i, n := range []int{0, 1, blocks - 2, blocks - 1} {
			put(t, d, n, 'a'+byte(i))
		}
		for i, n := range []int{0, 1, blocks - 2, blocks - 1} {
			holds(t, d, n, 'a'+byte(i))
		}
		holds(t, d, 2, 0)
		holds(t, d, blocks-3, 0)
	}
}

// P2.2: a write is of just 512 bytes.
func TestDataSizes(t *testing.T) {
	d := made(t, 64)
	put(t, d, 5, 'x')
	for _, n := range []int{0, 1, 511, 513, 1024} {
		data := bytes.Repeat([]byte{'a'}, n)
		still(t, "no block's bytes", d, func() {
			if e := d.Write(5, data); e != api.ErrSize {
				t.Errorf("Write of %d bytes: %v", n, e)
			}
			if e := d.Write(5, data[:n:n]); e != api.ErrSize {
				t.Errorf("Write of %d bytes without spare room: %v", n, e)
			}
		})
	}
	still(t, "nil", d, func() {
		if e := d.Write(5, nil); e != api.ErrSize {
			t.Errorf("Write of nil: %v", e)
		}
	})
	if e := d.Write(5, make([]byte, 512, 1024)); e != api.OK {
		t.Errorf("Write of 512 bytes with spare room: %v", e)
	}
}

// P2.2: every byte of a block is kept, in its place.
func TestEveryByte(t *testing.T) {
	d := made(t, 64)
	data := make([]byte, 512)
	for i := range data {
		data[i] = byte(i*7 + i/256)
	}
	d.Write(9, data)
	if b, e := d.Read(9); !bytes.Equal(b, data) || e != api.OK {
		t.Errorf("pending: %v %v", b, e)
	}
	d.Flush()
	if b, e := d.Read(9); !bytes.Equal(b, data) || e != api.OK {
		t.Errorf("flushed: %v %v", b, e)
	}
}

// P2.2: a block is what was written last, and a write is pending till a flush.
func TestReadWriteFlush(t *testing.T) {
	d := made(t, 64)
	for i, c := range []byte("abc") {
		put(t, d, 3, c)
		holds(t, d, 3, c)
		if d.Ops() != i+1 || !slices.Equal(d.Pending(), []int{3}) {
			t.Errorf("%d operations, pending %v", d.Ops(), d.Pending())
		}
	}
	put(t, d, 63, 'd')
	put(t, d, 0, 'e')
	put(t, d, 3, 0) // the same bytes as at first are a write too
	if !slices.Equal(d.Pending(), []int{0, 3, 63}) {
		t.Errorf("pending %v", d.Pending())
	}
	flush(t, d)
	if len(d.Pending()) != 0 || d.Ops() != 7 {
		t.Errorf("behind a flush: %d operations, pending %v", d.Ops(), d.Pending())
	}
	holds(t, d, 0, 'e')
	holds(t, d, 3, 0)
	holds(t, d, 63, 'd')
	flush(t, d)
	if d.Ops() != 8 {
		t.Errorf("a flush of nothing is an operation: %d", d.Ops())
	}
	if b, e := d.Read(63); !bytes.Equal(b, full('d')) || e != api.OK || d.Ops() != 9 || len(d.Pending()) != 0 {
		t.Errorf("Read: %v, %d operations, pending %v", e, d.Ops(), d.Pending())
	}
}

// P2.3: Pending rises, whatever the order of the writes, and tells each block once.
func TestPendingRises(t *testing.T) {
	d := made(t, 512)
	var want []int
	for i := range 512 {
		n := i * 37 % 512
		put(t, d, n, 'a')
		put(t, d, n, 'b')
		want = append(want, i)
	}
	if got := d.Pending(); !slices.Equal(got, want) {
		t.Errorf("pending %v", got)
	}
}

// ops are the operations, each told by its error; n is a block's number and size the bytes of a write.
func ops(n, size int) map[string]func(d *Device) api.Errno {
	return map[string]func(d *Device) api.Errno{
		"Read":  func(d *Device) api.Errno { _, e := d.Read(n); return e },
		"Write": func(d *Device) api.Errno { return d.Write(n, make([]byte, size)) },
		"Flush": func(d *Device) api.Errno { return d.Flush() },
	}
}

// trial is one operation on a device that stands in one way.
type trial struct {
	op      string
	down    bool
	fuse    int
	n, size int
}

// trials are all of them, one with another.
func trials() []trial {
	var all []trial
	for op := range ops(0, 0) {
		for i := range 24 {
			all = append(all, trial{op, i%2 == 1, []int{0, 1, -1}[i/2%3], []int{0, 64}[i/6%2], []int{511, 512}[i/12]})
		}
	}
	return all
}

// error is the one that comes first: down; no block; no block's bytes; a fuse at 0.
func (c trial) error() api.Errno {
	switch {
	case c.down:
		return api.ErrDown
	case c.op != "Flush" && c.n == 64:
		return api.ErrBlock
	case c.op == "Write" && c.size == 511:
		return api.ErrSize
	case c.fuse == 0:
		return api.ErrDown
	}
	return api.OK
}

// device stands as the trial asks.
func (c trial) device(t *testing.T) *Device {
	d := made(t, 64)
	put(t, d, 7, 'a')
	if c.down {
		d.Fuse(0)
		d.Flush()
	}
	d.Fuse(c.fuse)
	return d
}

// P2.2, P2.6: which error comes first, and that nothing has changed then but that the device may be down.
func TestOrderOfErrors(t *testing.T) {
	for _, c := range trials() {
		d := c.device(t)
		before := look(d)
		want := c.error()
		if e := ops(c.n, c.size)[c.op](d); e != want {
			t.Errorf("%+v: %v, not %v", c, e, want)
		}
		if d.Down() != (want == api.ErrDown) {
			t.Errorf("%+v: down %v", c, d.Down())
		}
		before.down = d.Down()
		if want != api.OK && !same(before, look(d)) {
			t.Errorf("%+v: something has changed", c)
		}
	}
}

// P2.6: an operation that the fuse stops answers nothing, does nothing, and leaves what is pending pending.
func TestStoppedOperations(t *testing.T) {
	for name, op := range ops(3, 512) {
		d := made(t, 64)
		put(t, d, 3, 'a')
		flush(t, d)
		put(t, d, 3, 'b')
		d.Fuse(0)
		if e := op(d); e != api.ErrDown || !d.Down() || d.Ops() != 3 || !slices.Equal(d.Pending(), []int{3}) {
			t.Errorf("%s: %v, down %v, %d operations, pending %v", name, e, d.Down(), d.Ops(), d.Pending())
		}
		for pick, c := range []byte("abab") {
			x := d.Copy()
			x.Crash([]int{pick})
			holds(t, x, 3, c)
		}
	}
	d := made(t, 64)
	d.Fuse(0)
	if b, e := d.Read(0); len(b) != 0 || e != api.ErrDown {
		t.Errorf("Read: %d bytes beside %v", len(b), e)
	}
	if b, e := d.Read(0); len(b) != 0 || e != api.ErrDown {
		t.Errorf("Read of a device that is down: %d bytes beside %v", len(b), e)
	}
}
