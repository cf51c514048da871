package segment

import (
	"testing"

	"cartulary/api"
	"cartulary/fsdir"
)

// isDown asks whether all calls that do an operation answer ErrDown, and the others what they answered.
func isDown(t *testing.T, w *world) {
	t.Helper()
	for i, f := range [][]api.Frame{nil, {}, frames(0), frames(2000, 1), frames(2000, 2000, 2000, 2000, 2000)} {
		if e := w.l.Append(f); e != api.ErrDown {
			t.Errorf("Append %d: %v", i, e)
		}
	}
	if e := w.l.Append(frames(1, 2001)); e != api.ErrSegLong { // that does none
		t.Errorf("Append of 2001 bytes: %v", e)
	}
	if l, e := Open(w.v); l != nil || e != api.ErrDown {
		t.Errorf("Open: %v", e)
	}
	w.stands()
}

// ErrDown: whatever call stopped, and wherever, from then on, whatever becomes of the device.
func TestDown(t *testing.T) {
	for _, c := range scenes() {
		t.Run(c.name, func(t *testing.T) {
			begun := c.begun(t)
			for k := 0; ; k++ {
				w := begun.again()
				c.since(w)
				w.d.Fuse(k)
				e := w.l.Append(c.f)
				if e == api.OK {
					break
				}
				if e != api.ErrDown {
					t.Fatalf("stopped at %d: %v", k, e)
				}
				if k%2 == 0 { // else it is asked for the first time when the device is up again
					isDown(t, w)
				}
				w.d.Crash([]int{1, 1})
				isDown(t, w)
				v, l, e := openAll(w.d)
				if e != api.OK {
					t.Fatalf("opened anew: %v", e)
				}
				isDown(t, w)
				if e := l.Append(frames(30)); e != api.OK {
					t.Errorf("Append: %v", e)
				}
				want := tell(t, v, l)
				isDown(t, w)
				if told(t, w.d) != want {
					t.Error("what is down has changed something")
				}
			}
		})
	}
}

// ErrDown: a device that somebody else took down.
func TestTakenDown(t *testing.T) {
	w := begin(t, 64)
	w.append(frames(5, 700)...)
	w.d.Fuse(0)
	w.d.Flush()
	isDown(t, w)
	if l, e := Open(w.v); l != nil || e != api.ErrDown {
		t.Errorf("Open: %v", e)
	}
	w.reopen()
	w.is()

	v := empty(t, 64) // also where a log could not be opened for want of room
	put(t, v, "seg.0", bytesOf(frames(2000)...)+"torn")
	leave(t, v, 0)
	sync(t, v)
	if _, e := Open(v); e != api.ErrSegSpace {
		t.Errorf("Open: %v", e)
	}
	d := laid(t, 64)
	v, e := fsdir.Mount(d)
	if e != api.OK {
		t.Fatal(e)
	}
	d.Fuse(0)
	if l, e := Open(v); l == nil || e != api.OK { // without a segment there is nothing to read
		t.Errorf("Open: %v", e)
	}
}

// Calls that need no operation do none: not Len, All and Segments, nor what is refused.
func TestOperations(t *testing.T) {
	w := begin(t, 64)
	w.append(frames(5, 700, 2000)...)
	w.leave(0)
	w.sync()
	w.d.Fuse(0)
	w.stands()
	w.append(frames(2001)...)
	w.append([]api.Frame{frame(1, 2000)}...)
	if w.d.Down() {
		t.Error("it is down")
	}
	w.d.Fuse(-1)
	w.is()

	v := mount(t, w.d) // each block of a segment is read once, and none of others' files
	ops := w.d.Ops()
	open(t, v)
	if n := w.d.Ops() - ops; n != counted(w.sizes[0]) {
		t.Errorf("Open: %d operations, not %d", n, counted(w.sizes[0]))
	}
}
