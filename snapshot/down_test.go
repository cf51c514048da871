package snapshot

import (
	"slices"
	"testing"

	"cartulary/api"
	"cartulary/store"
)

// isDown asks for what is answered when the store is down: State goes on; Load tells the same, or ErrDown and zeros; Take answers ErrDown, where there is something to keep. No operation is done, and the device stays as it is.
func isDown(t *testing.T, w *world) {
	t.Helper()
	ops, was := w.d.Ops(), bytesOf(t, w.d)
	for range 2 {
		for _, stream := range []string{"stream", "other", "none", ""} {
			want, count := w.state(stream), w.count(stream)
			state, n, e := State(w.s, w.r, w.l, stream)
			if !slices.Equal(state, want) || n != count || e != api.OK {
				t.Fatalf("State(%q): %v, %d, %v", stream, state, n, e)
			}
			state, n, from, e := Load(w.s, w.r, w.l, stream)
			told := slices.Equal(state, want) && n == count && e == api.OK
			if down := len(state) == 0 && n == 0 && from == 0 && e == api.ErrDown; !told && !down {
				t.Fatalf("Load(%q): %v, %d, %d, %v", stream, state, n, from, e)
			}
			e = Take(w.s, w.r, w.l, stream)
			if count == 0 && e != api.OK || count > 0 && e != api.ErrDown {
				t.Fatalf("Take(%q): %v", stream, e)
			}
		}
	}
	if w.d.Ops() != ops || bytesOf(t, w.d) != was {
		t.Fatalf("%d operations", w.d.Ops()-ops)
	}
}

// downs is a world in which one state is kept of a stream, and another stream's is not.
func downs(t *testing.T) *world {
	t.Helper()
	w := begin(t, 64, chapter())
	w.add("stream", opened(5))
	w.take("stream")
	w.add("stream", taken(1))
	w.add("other", opened(7))
	return w
}

// ErrDown: a Take or a Load that stops, ahead of each operation; and all that follows, whatever becomes of the device.
func TestDown(t *testing.T) {
	begun := downs(t)
	for name, do := range map[string]func(w *world) api.Errno{
		"Take": func(w *world) api.Errno { return Take(w.s, w.r, w.l, "stream") },
		"Load": func(w *world) api.Errno {
			state, n, from, e := Load(w.s, w.r, w.l, "stream")
			if e != api.OK && (len(state) != 0 || n != 0 || from != 0) {
				t.Errorf("Load: %v, %d, %d, %v", state, n, from, e)
			}
			return e
		},
	} {
		for k := 0; ; k++ {
			w := begun.again()
			w.d.Fuse(k)
			e := do(w)
			if e == api.OK {
				if w.d.Down() || k == 0 {
					t.Errorf("%s stopped at %d, and answers OK", name, k)
				}
				break
			}
			if e != api.ErrDown || !w.d.Down() {
				t.Fatalf("%s stopped at %d: %v", name, k, e)
			}
			isDown(t, w)
			w.d.Crash([]int{1, 1})
			isDown(t, w)
			if x := open(t, w.d.Copy()); x.Length() != 3 {
				t.Errorf("%d events", x.Length())
			}
			store.Format(w.d)
			isDown(t, w)
		}
	}
}

// ErrDown: a device that is down already.
func TestDownAlready(t *testing.T) {
	w := downs(t)
	w.d.Fuse(0)
	w.d.Flush()
	isDown(t, w)
	w.d.Crash(nil)
	isDown(t, w)
	w.reopen()
	w.loads("stream", 1)
	w.is()
	w.take("stream")
	w.take("other")
	w.loads("stream", 2)
	w.loads("other", 1)
	w.is()
}

// A state that need not be kept needs no device: OK is answered also when that is down.
func TestDownWithoutNeed(t *testing.T) {
	for _, c := range []struct {
		r api.Rules
		e api.Event
	}{
		{full(16), event("fill", 0, words("s", string(make([]byte, 200))))},
		{table(does("x", as("A", num(1)))), event("x", 0)},
	} {
		w := begin(t, 64, c.r)
		w.add("stream", c.e)
		w.d.Fuse(0)
		w.d.Flush()
		w.take("stream")
		w.take("none")
		if state, n, e := State(w.s, w.r, w.l, "stream"); !slices.Equal(state, w.state("stream")) || n != 1 || e != api.OK {
			t.Errorf("State: %v, %d, %v", state, n, e)
		}
	}
}
