package super

import (
	"bytes"
	"strings"
	"testing"

	"cartulary/api"
	"cartulary/blockdev"
)

const (
	most  = 1<<63 - 1
	least = -1 << 63
)

// record is what Load tells.
type record struct {
	data  string
	count int
	e     api.Errno
}

// none is where nothing is laid.
var none = record{e: api.ErrSuperNone}

// made is a new device.
func made(t *testing.T, blocks int) *blockdev.Device {
	t.Helper()
	d, e := blockdev.New(blocks)
	if d == nil || e != api.OK {
		t.Fatalf("New(%d): %v", blocks, e)
	}
	return d
}

// format lays a record, and that goes well.
func format(t *testing.T, d *blockdev.Device, at int, data string) {
	t.Helper()
	if e := Format(d, at, []byte(data)); e != api.OK {
		t.Fatalf("Format(%d, %.20q): %v", at, data, e)
	}
}

// store replaces one, and that goes well.
func store(t *testing.T, d *blockdev.Device, at int, data string) {
	t.Helper()
	if e := Store(d, at, []byte(data)); e != api.OK {
		t.Fatalf("Store(%d, %.20q): %v", at, data, e)
	}
}

// told is what Load tells of a place.
func told(d *blockdev.Device, at int) record {
	b, n, e := Load(d, at)
	return record{string(b), n, e}
}

// tells asks whether Load tells just that.
func tells(t *testing.T, d *blockdev.Device, at int, want record) {
	t.Helper()
	if got := told(d, at); got != want {
		t.Errorf("Load(%d): %.20q, %d, %v; not %.20q, %d, %v", at, got.data, got.count, got.e, want.data, want.count, want.e)
	}
}

// long is a text of so many bytes, unlike ones in a row.
func long(n int) string {
	return strings.Repeat("0123456789abcdefghijklmnopqrstuvwxyz", n/36+1)[:n]
}

// full is a block of one byte.
func full(c byte) []byte { return bytes.Repeat([]byte{c}, api.BlockSize) }

// put writes a block, and that goes well.
func put(t *testing.T, d *blockdev.Device, n int, b []byte) {
	t.Helper()
	if e := d.Write(n, b); e != api.OK {
		t.Fatalf("Write(%d): %v", n, e)
	}
}

// block reads one of a copy, so that no operation is counted and no fuse burns.
func block(t *testing.T, d *blockdev.Device, n int) []byte {
	t.Helper()
	c := d.Copy()
	c.Fuse(-1)
	b, e := c.Read(n)
	if e != api.OK {
		t.Fatalf("Read(%d): %v", n, e)
	}
	return b
}

// stopped is a device that went down.
func stopped(d *blockdev.Device) *blockdev.Device {
	d.Fuse(0)
	d.Flush()
	return d
}

// deep is more than one beyond how many writes of a block are pending in these tests.
const deep = 5

// crashes are a device's copies behind each crash that there can be.
func crashes(d *blockdev.Device) []*blockdev.Device {
	ways := 1
	for range d.Pending() {
		ways *= deep
	}
	var all []*blockdev.Device
	for way := range ways {
		var picks []int
		for range d.Pending() {
			picks = append(picks, way%deep)
			way /= deep
		}
		c := d.Copy()
		c.Crash(picks)
		all = append(all, c)
	}
	return all
}

// stops does something on copies of a device, and lets each stop at another operation, till it goes well. It answers the devices behind each crash of each of those that stopped, and the one on which it went well.
func stops(t *testing.T, d *blockdev.Device, do func(*blockdev.Device) api.Errno) ([]*blockdev.Device, *blockdev.Device) {
	t.Helper()
	var all []*blockdev.Device
	for k := range 100 {
		c := d.Copy()
		c.Fuse(k)
		e := do(c)
		if e == api.OK {
			c.Fuse(-1)
			return all, c
		}
		if e != api.ErrDown || !c.Down() {
			t.Fatalf("stopped at %d: %v, down %v", k, e, c.Down())
		}
		all = append(all, crashes(c)...)
	}
	t.Fatal("it does not end")
	return nil, nil
}

// stays asks whether what is told of a place stays so, through crashes, and through a Load that stops.
func stays(t *testing.T, d *blockdev.Device, at int, want record) {
	t.Helper()
	for k := range 4 {
		c := d.Copy()
		c.Fuse(k)
		if got := told(c, at); got != want && (got != record{e: api.ErrDown}) {
			t.Errorf("Load(%d), stopped at %d: %+v, not %+v", at, k, got, want)
		}
		for _, x := range crashes(c) {
			tells(t, x, at, want)
			x.Crash([]int{1, 1, 1})
			tells(t, x, at, want)
		}
	}
}
