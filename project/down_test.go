package project

import (
	"testing"

	"cartulary/api"
	"cartulary/store"
)

// isDown asks for what is answered when the store is down: Save and Open answer ErrDown; Tick goes on, since it does no operation, or answers ErrDown; the view tells what it told. No operation is done, and the device stays as it is.
func isDown(t *testing.T, w *world, v *View) {
	t.Helper()
	ops, was := w.d.Ops(), bytesOf(t, w.d)
	for range 2 {
		cursor, rows := v.Cursor(), v.Rows()
		if e := v.Save(w.s); e != api.ErrDown {
			t.Fatalf("Save: %v", e)
		}
		told(t, v, cursor, rows...)
		for _, p := range []api.Projection{chapter(), named("none", chapter().Sums...)} {
			if o, e := Open(w.s, p, nil); o != nil || e != api.ErrDown {
				t.Fatalf("Open: %v, %v", o, e)
			}
		}
		for _, p := range wrongs() {
			if o, e := Open(w.s, p, nil); o != nil || e != Check(p) {
				t.Fatalf("Open: %v, %v, not %v", o, e, Check(p))
			}
		}
		if n, e := v.Tick(w.s, -1); n != 0 || e != api.ErrArg {
			t.Fatalf("Tick: %d, %v", n, e)
		}
		n, e := v.Tick(w.s, 1)
		if e == api.ErrDown && n == 0 {
			continue
		}
		if want := min(1, len(w.log)-cursor); n != want || e != api.OK {
			t.Fatalf("Tick: %d, %v, not %d", n, e, want)
		}
		w.is(v, chapter())
	}
	if w.d.Ops() != ops || bytesOf(t, w.d) != was {
		t.Fatalf("%d operations", w.d.Ops()-ops)
	}
}

// downs is a world in which a view was saved, and more events came.
func downs(t *testing.T) *world {
	t.Helper()
	w := some(t, 4)
	w.save(w.view(chapter(), 4))
	w.add("acc", given(5), given(6), given(7), given(8), given(9), given(10))
	return w
}

// ErrDown: a Save, an Open that stops, ahead of each operation; and all that follows, whatever becomes of the device.
func TestDown(t *testing.T) {
	begun := downs(t)
	for name, do := range map[string]func(w *world, v *View) api.Errno{
		"Save": func(w *world, v *View) api.Errno { return v.Save(w.s) },
		"Open": func(w *world, _ *View) api.Errno { _, e := Open(w.s, chapter(), nil); return e },
	} {
		for k := 0; ; k++ {
			w := begun.again()
			v := w.view(chapter(), 6)
			w.d.Fuse(k)
			e := do(w, v)
			if e == api.OK {
				if w.d.Down() || k == 0 {
					t.Errorf("%s stopped at %d, and answers OK", name, k)
				}
				break
			}
			if e != api.ErrDown || !w.d.Down() {
				t.Fatalf("%s stopped at %d: %v", name, k, e)
			}
			isDown(t, w, v)
			w.d.Crash([]int{1, 1})
			isDown(t, w, v)
			if x := begun.on(w.d.Copy()).open(chapter()); x.Cursor() != 4 && (x.Cursor() != 6 || name != "Save") {
				t.Errorf("the cursor %d", x.Cursor())
			}
			store.Format(w.d)
			isDown(t, w, v)
		}
	}
}

// P17.3: a Tick does no operation of the device, so it stops at none: with any fuse all is taken.
func TestTicksDoNotStop(t *testing.T) {
	begun := downs(t)
	for k := range 30 {
		w := begun.again()
		v := w.open(chapter())
		w.d.Fuse(k)
		w.tick(v, chapter(), 3)
		w.tick(v, chapter(), most)
		if w.d.Down() || v.Cursor() != 10 {
			t.Errorf("stopped at %d: the cursor %d", k, v.Cursor())
		}
	}
}

// ErrDown: a device that is down already; behind the crash all goes on from what was saved.
func TestDownAlready(t *testing.T) {
	w := downs(t)
	v := w.view(chapter(), 5)
	w.down()
	isDown(t, w, v)
	w.d.Crash(nil)
	isDown(t, w, v)
	w.reopen()
	w.opens(chapter(), 4)
	w.is(v, chapter())
	w.save(v)
	w.opens(chapter(), v.Cursor())
	w.tick(v, chapter(), most)
	w.save(v)
	w.opens(chapter(), 10)
	w.isLog()
}

// A view that is too long to be saved needs no device: OK is answered also when that is down.
func TestDownWithoutNeed(t *testing.T) {
	w := begun(t, 256)
	longRows(w, 45, 200)
	v := w.view(byKey(), 45)
	w.down()
	rows := v.Rows()
	if e := v.Save(w.s); e != api.OK {
		t.Errorf("Save: %v", e)
	}
	told(t, v, 45, rows...)
}
