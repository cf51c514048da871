package blockdev

import (
	"bytes"
	"slices"
	"testing"

	"cartulary/api"
)

// R1: nothing is done on no device, and nothing told.
func TestNoDevice(t *testing.T) {
	var d *Device
	for _, n := range []int{least, -1, 0, 1, 64, most} {
		if b, e := d.Read(n); len(b) != 0 || e != api.ErrArg {
			t.Errorf("Read(%d): %v %v", n, b, e)
		}
		for _, data := range [][]byte{nil, {1}, full('a')} {
			if e := d.Write(n, data); e != api.ErrArg {
				t.Errorf("Write(%d): %v", n, e)
			}
		}
		if e := d.Fuse(n); e != api.ErrArg {
			t.Errorf("Fuse(%d): %v", n, e)
		}
		d.Crash([]int{n})
	}
	if e := d.Flush(); e != api.ErrArg {
		t.Errorf("Flush: %v", e)
	}
	d.Crash(nil)
	if d.Blocks() != 0 || d.Down() || d.Ops() != 0 || len(d.Pending()) != 0 || d.Copy() != nil {
		t.Errorf("no device: %d blocks, down %v, %d operations, pending %v, copy %v", d.Blocks(), d.Down(), d.Ops(), d.Pending(), d.Copy())
	}
}

// R1: a device that is made by hand has no blocks, and no call panics.
func TestHandMadeDevice(t *testing.T) {
	d := &Device{}
	for range 2 {
		if b, e := d.Read(0); len(b) != 0 || e != api.ErrBlock {
			t.Errorf("Read: %v %v", b, e)
		}
		if e := d.Write(0, full('a')); e != api.ErrBlock {
			t.Errorf("Write: %v", e)
		}
		if d.Blocks() != 0 || len(d.Pending()) != 0 || d.Down() {
			t.Errorf("%d blocks, pending %v, down %v", d.Blocks(), d.Pending(), d.Down())
		}
		if e := d.Flush(); e != api.OK {
			t.Errorf("Flush: %v", e)
		}
		d.Fuse(0)
		d.Flush()
		d.Crash([]int{1, 2})
		d = d.Copy()
	}
}

// devices are some that stand differently: pending writes, fuses, down.
func devices(t *testing.T) map[string]*Device {
	all := map[string]*Device{}
	for _, name := range []string{"new", "pending", "fused", "burnt", "down"} {
		d := made(t, 64)
		all[name] = d
		if name == "new" {
			continue
		}
		put(t, d, 3, 'a')
		flush(t, d)
		put(t, d, 3, 'b')
		put(t, d, 3, 'c')
		put(t, d, 60, 'd')
		switch name {
		case "fused":
			d.Fuse(3)
		case "burnt":
			d.Fuse(0)
		case "down":
			d.Fuse(0)
			d.Flush()
		}
	}
	return all
}

// changes are all calls that change a device.
func changes() map[string]func(d *Device) {
	return map[string]func(d *Device){
		"write":  func(d *Device) { d.Write(3, full('x')) },
		"write2": func(d *Device) { d.Write(3, full('x')); d.Write(3, full('y')); d.Write(9, full('z')) },
		"read":   func(d *Device) { d.Read(3) },
		"flush":  func(d *Device) { d.Flush() },
		"fuse":   func(d *Device) { d.Fuse(1) },
		"crash":  func(d *Device) { d.Crash([]int{1, 1}) },
		"more":   func(d *Device) { d.Crash([]int{2}); d.Write(3, full('x')); d.Flush(); d.Write(60, full('y')) },
	}
}

// P2.5: a copy stands as the device, and each goes its own way.
func TestCopy(t *testing.T) {
	for name, d := range devices(t) {
		before := look(d)
		c := d.Copy()
		if c == d || c.Blocks() != d.Blocks() || !same(before, look(c)) || !same(before, look(d)) {
			t.Errorf("%s: the copy stands otherwise", name)
		}
	}
	for call, change := range changes() {
		for name, d := range devices(t) {
			before := look(d)
			c := d.Copy()
			change(c)
			if !same(before, look(d)) {
				t.Errorf("%s: %s of the copy is the device's too", name, call)
			}
			c = d.Copy()
			change(d)
			if !same(before, look(c)) {
				t.Errorf("%s: %s of the device is the copy's too", name, call)
			}
		}
	}
}

// P2.5: writes to a device, to its copy and to the copy's copy stay apart.
func TestCopiesOfCopies(t *testing.T) {
	d := made(t, 64)
	for _, c := range []byte("abcde") {
		put(t, d, 3, c)
		x := d.Copy()
		y := x.Copy()
		put(t, x, 3, 'x')
		put(t, y, 3, 'y')
		put(t, d, 3, c+1)
		holds(t, x, 3, 'x')
		holds(t, y, 3, 'y')
		holds(t, d, 3, c+1)
		if x.Ops() != d.Ops() || y.Ops() != d.Ops() {
			t.Errorf("%d, %d and %d operations", d.Ops(), x.Ops(), y.Ops())
		}
	}
}

// R4: what is handed in is neither changed nor kept.
func TestHandedIn(t *testing.T) {
	d := made(t, 64)
	all := bytes.Repeat([]byte{'a'}, 600)
	if e := d.Write(3, all[8:520]); e != api.OK || !bytes.Equal(all, bytes.Repeat([]byte{'a'}, 600)) {
		t.Errorf("Write has changed its data: %v", e)
	}
	for i := range all {
		all[i] = 'z'
	}
	holds(t, d, 3, 'a')
	put(t, d, 4, 'b')
	picks := []int{-2, 3, 77, 78}
	d.Crash(picks[:2])
	if !slices.Equal(picks, []int{-2, 3, 77, 78}) {
		t.Errorf("Crash has changed its picks: %v", picks)
	}
	holds(t, d, 3, 'a')
	holds(t, d, 4, 'b')
}

// R4: what is handed out is new memory, its spare room too.
func TestHandedOut(t *testing.T) {
	scribble := func(d *Device, n int, c byte) {
		t.Helper()
		a, _ := d.Read(n)
		b, _ := d.Read(n)
		for _, x := range [][]byte{a, a[:cap(a)]} {
			for i := range x {
				x[i] = 'z'
			}
		}
		if !bytes.Equal(b, full(c)) {
			t.Errorf("two answers share memory")
		}
		holds(t, d, n, c)
	}
	d := made(t, 64)
	scribble(d, 3, 0)
	put(t, d, 3, 'a')
	scribble(d, 3, 'a')
	flush(t, d)
	scribble(d, 3, 'a')
	holds(t, d, 4, 0)

	put(t, d, 9, 'b')
	put(t, d, 5, 'b')
	put(t, d, 7, 'b')
	got, again := d.Pending(), d.Pending()
	for i := range got[:cap(got)] {
		got[:cap(got)][i] = -1
	}
	if !slices.Equal(again, []int{5, 7, 9}) || !slices.Equal(d.Pending(), again) {
		t.Errorf("pending %v, %v", again, d.Pending())
	}
}
