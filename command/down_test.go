package command

import (
	"testing"

	"cartulary/api"
	"cartulary/store"
)

// downs is a world in which a state is kept of `acc`, and keys are known of it and of `box`.
func downs(t testing.TB) *world {
	t.Helper()
	w := acc(t, 64)
	w.add("acc", "of acc", taken(1), taken(1))
	w.add("box", "of box", opened(7))
	w.snap("acc")
	w.add("acc", "", opened(5))
	return w
}

// loaded is a job that is to append next.
func (w *world) loaded(c api.Command) pair {
	w.t.Helper()
	x := w.job(c)
	w.steps(x, notYet)
	return x
}

// isDown asks what is answered when the store is down: what needs it not goes on; all else is DDown, whether it is told as it loads or as it appends. These jobs are DDown too. No operation is done, and the device and what is told of the log stay as they are.
func (w *world) isDown(l ...pair) {
	w.t.Helper()
	ops, was := w.d.Ops(), bytesOf(w.t, w.d)
	for range 2 {
		for _, x := range l {
			if d, is := x.j.Step(w.s, w.r, w.l); d != down || !is {
				w.t.Fatalf("%+v: %+v, %v", x.p.c, d, is)
			}
		}
		for _, c := range []struct {
			c       api.Command
			want    api.Done
			without bool // the state need not be asked
		}{
			{order("", "take", "", 1), badly(api.ErrStreamName), true},
			{keyed(take(1), "of acc"), came(api.DAgain, 1, 1, 2), true},
			{expecting(keyed(take(1), "of acc"), -7), came(api.DAgain, 1, 1, 2), true},
			{keyed(take(1), "of box"), badly(api.ErrStreamKey), true},
			{expecting(take(1), -2), badly(api.ErrArg), true},
			{expecting(take(1), 1), conflict, false},
			{order("acc", "give", "", 1), badly(api.ErrRulesNone), false},
			{order("none", "take", "", 1), badly(api.ErrRulesField), false},
			{take(6), never("empty"), false},
			{take(5), down, false},
			{keyed(expecting(take(5), 4), "new"), down, false},
			{order("none", "open", "", 5), down, false},
		} {
			j := New(c.c)
			d, is := j.Step(w.s, w.r, w.l)
			if !is && c.want == down {
				d, is = j.Step(w.s, w.r, w.l)
			}
			if !is || d != c.want && (c.without || d != down) {
				w.t.Fatalf("%+v: %+v, %v, not %+v", c.c, d, is, c.want)
			}
		}
	}
	w.is("new")
	if w.d.Ops() != ops || bytesOf(w.t, w.d) != was {
		w.t.Fatalf("something has happened, in %d operations", w.d.Ops()-ops)
	}
}

// P16.2, P16.3: a device that stops ahead of each operation in a step, of a job that loads and of one that appends: DDown, then and ever after, of all jobs that need the store, whatever becomes of the device.
func TestDown(t *testing.T) {
	begun := downs(t)
	for name, turn := range map[string]func(w *world) pair{
		"to load":                  func(w *world) pair { return w.job(keyed(take(2), "k")) },
		"to load, without a key":   func(w *world) pair { return w.job(expecting(take(2), 4)) },
		"to append":                func(w *world) pair { return w.loaded(keyed(take(2), "k")) },
		"to append, without a key": func(w *world) pair { return w.loaded(expecting(take(2), 4)) },
		"to append a third time":   func(w *world) pair { return w.loaded(keyed(take(2), "k")) },
	} {
		stopped := 0
		for k := 0; ; k++ {
			w := begun.again()
			x, late := turn(w), w.loaded(order("box", "take", "", 1))
			if name == "to append a third time" {
				for range 2 {
					w.add("acc", "", opened(6))
					w.steps(x, notYet, notYet)
				}
			}
			w.d.Fuse(k)
			d, is := x.j.Step(w.s, w.r, w.l)
			if !w.d.Down() {
				if want, done := w.m.step(x.p, w.r, w.l); d != want || is != done {
					t.Errorf("%s, a fuse at %d: %+v, %v, not %+v, %v", name, k, d, is, want, done)
				}
				break
			}
			if stopped++; d != down || !is {
				t.Fatalf("%s, stopped at %d: %+v, %v", name, k, d, is)
			}
			w.isDown(x, late)
			w.d.Crash([]int{1, 1})
			w.isDown(x, late)
			store.Format(w.d)
			w.isDown(x, late)
			// It is DDown too to a store that is up.
			other := acc(t, 64)
			other.isDone(x, down)
			other.isDone(late, down)
			other.is()
		}
		if stopped == 0 {
			t.Errorf("%s: never stopped", name)
		}
	}
}

// isDone asks whether a job is done, and has come to this.
func (w *world) isDone(x pair, want api.Done) {
	w.t.Helper()
	if d, is := x.j.Step(w.s, w.r, w.l); d != want || !is {
		w.t.Fatalf("%+v: %+v, %v, not %+v", x.p.c, d, is, want)
	}
}

// P16.2, P16.3: a device that somebody else has taken down; and behind the crash a job that was not yet stepped goes on with the store that was opened anew.
func TestDownAlready(t *testing.T) {
	w := downs(t)
	fresh, other, went := w.job(take(1)), w.loaded(take(2)), w.loaded(take(2))
	w.d.Fuse(0)
	w.d.Flush()
	w.isDown(went)
	w.d.Crash(nil)
	w.isDown(went)
	w.reopen()
	w.steps(fresh, notYet, came(api.DDone, 4, 5, 1))
	w.steps(other, notYet, notYet, came(api.DDone, 5, 6, 1))
	w.isDone(went, down)
	w.is()
}

// P16.3: an append that stops is no append that came too late: a job that is DDown is done, also with a key that is known meanwhile.
func TestDownAheadOfAll(t *testing.T) {
	for _, between := range []func(w *world){
		func(w *world) { w.add("acc", "k", taken(1)) },
		func(w *world) { w.add("box", "k", taken(1)) },
		func(w *world) { w.add("acc", "", taken(1)) },
		fill,
	} {
		w := downs(t)
		x, y := w.loaded(keyed(take(1), "k")), w.loaded(expecting(keyed(take(1), "k"), 4))
		between(w)
		w.d.Fuse(0)
		w.d.Flush()
		w.isDone(x, down)
		w.isDone(y, down)
		w.reopen()
		w.isDone(x, down)
		w.isDone(y, down)
		w.is("k")
	}
}
