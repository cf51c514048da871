package blockdev

import (
	"testing"

	"cartulary/api"
)

// P2.2, P2.3: k more operations go well, of each kind, and the device is down only at the one behind them.
func TestFuse(t *testing.T) {
	for name, op := range ops(0, 512) {
		for _, k := range []int{0, 1, 2, 17} {
			d := made(t, 64)
			if e := d.Fuse(k); e != api.OK || d.Down() || d.Ops() != 0 {
				t.Fatalf("Fuse(%d): %v, down %v, %d operations", k, e, d.Down(), d.Ops())
			}
			for i := range k {
				if e := op(d); e != api.OK || d.Down() || d.Ops() != i+1 {
					t.Fatalf("Fuse(%d), %s, the %dth: %v, down %v", k, name, i, e, d.Down())
				}
			}
			for range 3 {
				if e := op(d); e != api.ErrDown || !d.Down() || d.Ops() != k {
					t.Fatalf("Fuse(%d), %s, the last: %v, down %v, %d operations", k, name, e, d.Down(), d.Ops())
				}
			}
		}
	}
}

// P2.3: below 0 there is no fuse, and one that burnt is gone.
func TestNoFuse(t *testing.T) {
	for _, k := range []int{-1, -2, least} {
		for _, first := range []int{0, 1, 5, -1} {
			d := made(t, 64)
			d.Fuse(first)
			if e := d.Fuse(k); e != api.OK {
				t.Errorf("Fuse(%d): %v", k, e)
			}
			for range 20 {
				if e := d.Flush(); e != api.OK {
					t.Fatalf("Fuse(%d), Fuse(%d), Flush: %v", first, k, e)
				}
			}
		}
	}
}

// P2.3: a fuse that is set while one burns is the only one.
func TestFuseWhileOneBurns(t *testing.T) {
	for _, c := range []struct{ first, burnt, then, want int }{
		{5, 2, 1, 1}, {5, 2, 9, 9}, {5, 2, 0, 0}, {1, 1, 3, 3}, {0, 0, 2, 2}, {5, 5, -1, -1}, {3, 0, 3, 3},
	} {
		d := made(t, 64)
		d.Fuse(c.first)
		for range c.burnt {
			d.Flush()
		}
		if e := d.Fuse(c.then); e != api.OK || d.Down() || d.Ops() != c.burnt {
			t.Errorf("%v: %v, down %v, %d operations", c, e, d.Down(), d.Ops())
		}
		if got := left(d); got != c.want {
			t.Errorf("%v: %d operations go well", c, got)
		}
	}
}

// P2.3: a fuse as long as can be.
func TestLongFuse(t *testing.T) {
	d := made(t, 64)
	d.Fuse(most)
	for range 30 {
		if e := d.Flush(); e != api.OK {
			t.Fatal(e)
		}
	}
}

// P2.2: what answers another error burns nothing, and is not counted.
func TestErrorsBurnNothing(t *testing.T) {
	d := made(t, 64)
	d.Fuse(2)
	for range 5 {
		d.Read(-1)
		d.Read(64)
		d.Write(64, full('a'))
		d.Write(0, full('a')[:511])
	}
	if d.Down() || d.Ops() != 0 || left(d) != 2 {
		t.Errorf("down %v, %d operations, %d left", d.Down(), d.Ops(), left(d))
	}
}

// P2.3: what only asks is no operation: it burns nothing, is not counted, and goes on where a device is down.
func TestAskingIsNoOperation(t *testing.T) {
	d := made(t, 64)
	put(t, d, 3, 'a')
	d.Fuse(1)
	ask := func() {
		for range 4 {
			if d.Blocks() != 64 || d.Ops() != 1 || len(d.Pending()) != 1 || d.Copy() == nil {
				t.Errorf("%d blocks, %d operations, pending %v", d.Blocks(), d.Ops(), d.Pending())
			}
		}
	}
	ask()
	if left(d) != 1 || d.Down() {
		t.Errorf("down %v, %d left", d.Down(), left(d))
	}
	d.Fuse(0)
	d.Flush()
	ask()
	if !d.Down() {
		t.Errorf("up again by asking")
	}
}

// P2.3: a device that is down takes no fuse, and stays as it is.
func TestFuseWhenDown(t *testing.T) {
	d := made(t, 64)
	put(t, d, 3, 'a')
	d.Fuse(0)
	d.Flush()
	for _, k := range []int{0, 1, 5, -1, least} {
		still(t, "Fuse", d, func() {
			if e := d.Fuse(k); e != api.ErrDown {
				t.Errorf("Fuse(%d): %v", k, e)
			}
		})
	}
	d.Crash(nil)
	if left(d) != -1 {
		t.Errorf("a fuse that was refused burns: %d", left(d))
	}
}

// The chapter's last example.
func TestFuseExample(t *testing.T) {
	d := made(t, 64)
	if e := d.Fuse(1); e != api.OK {
		t.Errorf("Fuse: %v", e)
	}
	if _, e := d.Read(0); e != api.OK {
		t.Errorf("Read: %v", e)
	}
	if _, e := d.Read(0); e != api.ErrDown || !d.Down() {
		t.Errorf("Read: %v, down %v", e, d.Down())
	}
	d.Crash(nil)
	if d.Down() {
		t.Errorf("down behind a crash")
	}
	if _, e := d.Read(0); e != api.OK || d.Ops() != 2 {
		t.Errorf("Read: %v, %d operations", e, d.Ops())
	}
}
