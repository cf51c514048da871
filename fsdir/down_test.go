package fsdir

import (
	"fmt"
	"strings"
	"testing"

	"cartulary/api"
)

// isDown asks whether all calls with an Errno answer ErrDown, also where there is something wrong, and the others do not panic.
func isDown(t testing.TB, v *FS) {
	t.Helper()
	for _, name := range []string{"", "a", "none", strings.Repeat("n", 41)} {
		if e := v.Create(name); e != api.ErrDown {
			t.Errorf("Create(%q): %v", name, e)
		}
		for _, n := range []int{0, 1, 600, 40000} {
			if e := v.Append(name, full(n)); e != api.ErrDown {
				t.Errorf("Append(%q, %d bytes): %v", name, n, e)
			}
		}
		for _, at := range []int{least, -1, 0, 1, most} {
			if b, e := v.Read(name, at, at); len(b) > 0 || e != api.ErrDown {
				t.Errorf("Read(%q, %d, %d): %d bytes, %v", name, at, at, len(b), e)
			}
		}
		if n, e := v.Size(name); n != 0 || e != api.ErrDown {
			t.Errorf("Size(%q): %d, %v", name, n, e)
		}
		for _, to := range []string{"", "a", "b", name} {
			if e := v.Rename(name, to); e != api.ErrDown {
				t.Errorf("Rename(%q, %q): %v", name, to, e)
			}
		}
		if e := v.Remove(name); e != api.ErrDown {
			t.Errorf("Remove(%q): %v", name, e)
		}
	}
	if e := v.Sync(); e != api.ErrDown {
		t.Errorf("Sync: %v", e)
	}
	v.List()
	v.Free()
	v.Reset()
	v.List()
	v.Free()
}

// P8.7: whatever call stopped, and wherever, all answer ErrDown from then on, also behind a crash, till the device is mounted anew.
func TestDown(t *testing.T) {
	for name, do := range map[string]func(*both) api.Errno{
		"Sync": func(b *both) api.Errno { return b.v.Sync() },
		"Read": func(b *both) api.Errno {
			_, e := b.v.Read("0", 0, 20000)
			return e
		},
		"Append": func(b *both) api.Errno {
			if e := b.v.Append("0", full(10000)); e != api.OK {
				return e
			}
			return b.v.Append("1", full(10000))
		},
	} {
		t.Run(name, func(t *testing.T) {
			begun := pair(t, 512)
			for i := range 3 {
				begun.create(fmt.Sprint(i))
				begun.append(fmt.Sprint(i), text(i, 20000))
			}
			begun.sync()
			stops := 0
			for k := range 400 {
				b := begun.again()
				b.append("2", text(5, 8000))
				b.create("a")
				b.d.Fuse(k / 2)
				e := do(b)
				if e == api.OK {
					break
				}
				if e != api.ErrDown || !b.d.Down() {
					t.Fatalf("stopped at %d: %v", k/2, e)
				}
				stops++
				if k%2 == 0 { // else it is asked for the first time when the device is up again
					isDown(t, b.v)
				}
				b.d.Crash([]int{1, 1, 1})
				isDown(t, b.v)
				w := mount(t, b.d)
				isDown(t, b.v)
				if e := w.Create("w"); e != api.OK {
					t.Errorf("Create: %v", e)
				}
				if e := w.Sync(); e != api.OK {
					t.Errorf("Sync: %v", e)
				}
				isDown(t, b.v)
				if l := mount(t, b.d).List(); l[len(l)-1] != "w" {
					t.Errorf("%q", l)
				}
				Format(b.d)
				isDown(t, b.v)
			}
			if stops < 4 {
				t.Errorf("%d stops", stops)
			}
		})
	}
}

// P8.7: a device that went down while somebody else used it.
func TestTakenDown(t *testing.T) {
	for i, do := range []func(*FS) api.Errno{
		func(v *FS) api.Errno { return v.Create("b") },
		func(v *FS) api.Errno { return v.Append("a", nil) },
		func(v *FS) api.Errno { _, e := v.Read("a", 0, 0); return e },
		func(v *FS) api.Errno { _, e := v.Size("none"); return e },
		func(v *FS) api.Errno { return v.Rename("a", "a") },
		func(v *FS) api.Errno { return v.Remove("a") },
		func(v *FS) api.Errno { return v.Sync() },
	} {
		b := pair(t, 64)
		b.create("a")
		b.append("a", text(1, 600))
		b.sync()
		stopped(b.d)
		if e := do(b.v); e != api.ErrDown {
			t.Errorf("call %d: %v", i, e)
		}
		b.d.Crash(nil)
		isDown(t, b.v)
		b.v = mount(t, b.d)
		b.is()
	}
}

// A fuse at 0 lets no operation go well; calls that need none go well, or are refused as ever.
func TestFuse(t *testing.T) {
	b := pair(t, 64)
	b.create("a")
	b.append("a", text(1, 600))
	b.sync()
	b.d.Fuse(0)
	b.same("too long", b.append("a", text(2, 32768)), api.ErrFsLong)
	b.same("too much", b.append("a", text(2, 20000)), api.ErrFsSpace)
	b.same("beyond", b.read("a", 601, 0), api.ErrArg)
	b.same("no name", b.create(""), api.ErrFsName)
	b.same("none", b.remove("b"), api.ErrFsNone)
	if b.d.Down() {
		t.Error("it is down")
	}
	if e := b.v.Sync(); e != api.ErrDown {
		t.Errorf("Sync: %v", e)
	}
	isDown(t, b.v)
	b.d.Crash(nil)
	b.v = mount(t, b.d)
	b.is()
}
