package store

import (
	"slices"
	"testing"

	"cartulary/api"
)

// isDown asks whether all calls with an Errno answer ErrDown, also where there is something wrong, but Stream and All; and whether these, and those without one, tell what they told, without an operation of the device.
func isDown(t *testing.T, w *world) {
	t.Helper()
	is := func(call string, name string, e api.Errno) {
		t.Helper()
		if e != api.ErrDown {
			t.Fatalf("%s(%q): %d", call, name, e)
		}
	}
	ops := w.d.Ops()
	for _, name := range append(w.m.streams(), "", "new", text(1, 61)) {
		for _, key := range append(w.m.keys(), "", "new", text(1, 61)) {
			for _, l := range [][]api.Event{nil, events(1, 1), events(1, 17), sized("s", "", 0, 2001)} {
				for _, n := range []int{least, -1, 0, w.m.version(name), most} {
					a, e := w.s.Append(name, n, key, l)
					is("Append", name, e)
					if a != (api.Appended{}) {
						t.Fatalf("Append(%q): %v", name, a)
					}
				}
			}
		}
	}
	for _, name := range append(w.m.names(), "", "new", text(1, 31)) {
		for _, n := range []int{0, 1, 8000, 8001} {
			is("Save", name, w.s.Save(name, make([]byte, n)))
		}
		is("Drop", name, w.s.Drop(name))
		data, e := w.s.Saved(name)
		is("Saved", name, e)
		if len(data) != 0 {
			t.Fatalf("Saved(%q): %d bytes", name, len(data))
		}
	}
	w.stands()
	if w.d.Ops() != ops {
		t.Fatalf("%d operations", w.d.Ops()-ops)
	}
}

// stands asks whether a store whose device is down tells what it told.
func (w *world) stands() {
	w.t.Helper()
	if got, want := tellStreams(w.t, w.s, w.m.keys(), keys()), w.m.wantStreams(w.m.keys(), keys()); got != want {
		w.t.Fatalf("when it is down: %s\nnot\n%s", brief(got), brief(want))
	}
	if l, want := w.s.Streams(), w.m.streams(); !slices.Equal(l, want) {
		w.t.Fatalf("when it is down: streams %q, not %q", l, want)
	}
	if l, want := w.s.Names(), w.m.names(); !slices.Equal(l, want) {
		w.t.Fatalf("when it is down: names %q, not %q", l, want)
	}
	for _, c := range [][2]int{{-1, 0}, {0, -1}, {least, least}} {
		_, e := w.s.All(c[0], c[1])
		if _, f := w.s.Stream("s", c[0], c[1]); e != api.ErrArg || f != e {
			w.t.Fatalf("when it is down: All and Stream(%v): %d, %d", c, e, f)
		}
	}
}

// P11.6: whatever call stopped, and wherever, all answer ErrDown from then on, whatever becomes of the device, but for what is told without it; and what is down changes nothing.
func TestDown(t *testing.T) {
	for _, c := range scenes() {
		t.Run(c.name, func(t *testing.T) {
			t.Parallel()
			begun := c.begun(t)
			for k := 0; ; k++ {
				w := begun.again()
				w.d.Fuse(k)
				e := c.do(w.s)
				if e == api.OK {
					break
				}
				if e != api.ErrDown {
					t.Fatalf("stopped at %d: %v", k, e)
				}
				if k%2 == 0 { // else it is asked for the first time when the device is up again
					isDown(t, w)
				}
				w.d.Crash([]int{1, 1})
				isDown(t, w)
				other := open(t, w.d)
				isDown(t, w)
				if _, e := other.Append("new", 0, "new", events(1, 1)); e != api.OK && e != api.ErrStoreSpace {
					t.Fatalf("Append: %v", e)
				}
				want := told(t, w.d)
				isDown(t, w)
				if told(t, w.d) != want {
					t.Fatal("what is down has changed something")
				}
				if e := Format(w.d); e != api.OK {
					t.Fatalf("Format: %v", e)
				}
				isDown(t, w)
			}
		})
	}
}

// P11.6: a device that is down already when it is asked: each call finds that out, and keeps it in mind.
func TestTakenDown(t *testing.T) {
	for i, do := range []func(*Store) api.Errno{
		func(s *Store) api.Errno { _, e := s.Append("a", -1, "", events(1, 1)); return e },
		func(s *Store) api.Errno { _, e := s.Append("a", -1, "k", events(1, 1)); return e }, // it was there
		func(s *Store) api.Errno { _, e := s.Append("", -2, "", nil); return e },
		func(s *Store) api.Errno { return s.Save("x", nil) },
		func(s *Store) api.Errno { return s.Save("", make([]byte, 8001)) },
		func(s *Store) api.Errno { return s.Drop("one") },
		func(s *Store) api.Errno { return s.Drop("not there") },
		func(s *Store) api.Errno { _, e := s.Saved("one"); return e },
		func(s *Store) api.Errno { _, e := s.Saved("not there"); return e },
	} {
		w := grown(t, 64)
		w.d.Fuse(0)
		w.d.Flush()
		w.stands()
		if e := do(w.s); e != api.ErrDown {
			t.Errorf("call %d: %v", i, e)
		}
		isDown(t, w)
		w.d.Crash(nil)
		isDown(t, w)
		if s, e := Open(w.d); s == nil || e != api.OK {
			t.Errorf("Open: %v", e)
		}
		w.reopen()
		w.is()
	}
}

// P11.6: Saved may need the device: where that stops then, all that follows is down too.
func TestSavedStops(t *testing.T) {
	begun := grown(t, 64)
	for k := 0; ; k++ {
		w := begun.again()
		w.d.Fuse(k)
		data, e := w.s.Saved("one")
		if e == api.OK {
			if string(data) != w.m.saved["one"] {
				t.Errorf("%d bytes", len(data))
			}
			break
		}
		if e != api.ErrDown || len(data) != 0 {
			t.Errorf("stopped at %d: %d bytes, %v", k, len(data), e)
		}
		isDown(t, w)
		w.d.Crash(nil)
		isDown(t, w)
	}
}

// ErrDown: Format and Open of a device that is down, and of one that goes down.
func TestOpenDown(t *testing.T) {
	d := grown(t, 64).d
	d.Fuse(0)
	for range 2 {
		if s, e := Open(d); s != nil || e != api.ErrDown || !d.Down() {
			t.Errorf("Open: %v, %v", s, e)
		}
		if e := Format(d); e != api.ErrDown {
			t.Errorf("Format: %v", e)
		}
	}
	d = device(t, 64) // also where no store lies
	d.Fuse(0)
	if s, e := Open(d); s != nil || e != api.ErrDown {
		t.Errorf("Open: %v, %v", s, e)
	}
}
