package command

import (
	"fmt"
	"slices"
	"strings"
	"testing"

	"cartulary/api"
	"cartulary/blockdev"
	"cartulary/store"
)

// scene is what was done ahead of a command's append.
type scene struct {
	name   string
	blocks int
	r      api.Rules
	before func(w *world)
	c      api.Command
	late   int // how many of its appends come too late
}

func scenes() []scene {
	none := func(*world) {}
	begun := func(w *world) {
		w.add("acc", "old", opened(50), taken(1))
		w.add("box", "of box", opened(7))
		w.save("x", 700)
	}
	long := func(bytes int) func(w *world) {
		return func(w *world) {
			begun(w)
			for n := 0; bytes-n > 250; n += 227 {
				w.add("long", "", event("x", 0, words("s", strings.Repeat("x", 200))))
			}
		}
	}
	snapped := func(w *world) {
		begun(w)
		w.snap("acc")
		w.add("acc", "", taken(1))
		w.snap("acc")
		w.add("acc", "", taken(2))
	}
	filled := func(w *world) {
		begun(w)
		fill(w)
	}
	r := with(chapter(), broad("sixteen", 16, 60), broad("longest", 9, 200), broad("three", 3, 20))
	do := func(name string) api.Command {
		return api.Command{Stream: "acc", Name: name, Key: "k", Expected: -1}
	}
	return []scene{
		{"the first of all", 64, r, none, order("acc", "open", "k", 1), 0},
		{"behind others", 64, r, begun, keyed(take(2), "k"), 0},
		{"on 512 blocks", 512, r, begun, keyed(take(2), "k"), 0},
		{"without a key", 64, r, begun, take(2), 0},
		{"with a number that is expected", 64, r, begun, expecting(keyed(take(2), "k"), 2), 0},
		{"the first of its stream", 64, r, begun, expecting(order("new", "open", "k", 2), 0), 0},
		{"of three events", 64, r, begun, do("three"), 0},
		{"of sixteen events", 64, r, begun, do("sixteen"), 0},
		{"of many bytes", 64, r, begun, do("longest"), 0},
		{"into a new segment", 64, r, long(8192), do("longest"), 0},
		{"across blocks", 64, r, long(5000), do("sixteen"), 0},
		{"behind kept states", 64, r, snapped, keyed(take(2), "k"), 0},
		{"behind a crash", 64, r, func(w *world) {
			snapped(w)
			w.reopen(1, 0)
		}, keyed(take(2), "k"), 0},
		{"at the second append", 64, r, begun, keyed(take(2), "k"), 1},
		{"at the third append", 64, r, begun, keyed(take(2), "k"), 2},
		{"too late", 64, r, begun, keyed(take(2), "k"), 3},
		{"without room", 64, r, filled, keyed(take(2), "k"), 0},
	}
}

// begun is a world in which the scene's command is to be appended, and the job of it.
func (c scene) begun(t testing.TB, first *world) (*world, pair) {
	t.Helper()
	w := first.again()
	x := w.job(c.c)
	w.step(x)
	for i := range c.late {
		w.add("acc", "", taken(1))
		if i < 2 {
			w.step(x)
			w.step(x)
		}
	}
	return w, x
}

// isEither asks whether the log is as one of the accounts says; the world has that one then.
func (w *world) isEither(l ...*account) {
	w.t.Helper()
	for _, m := range l {
		keys := slices.Concat(m.keys(), l[0].keys(), l[len(l)-1].keys(), []string{"k"})
		if tell(w.t, w.s, keys) == m.want(keys) {
			w.m = m.copy()
			w.is("k")
			return
		}
	}
	w.t.Fatalf("%s\nis none of %d", brief(tell(w.t, w.s, []string{"k"})), len(l))
}

// stays asks whether the log is as the account says, and stays so where Open stops ahead of each operation.
func stays(t *testing.T, seen map[string]bool, w *world, d *blockdev.Device, times int) {
	t.Helper()
	key := fmt.Sprint(bytesOf(t, d), times)
	if seen[key] {
		return
	}
	seen[key] = true
	y := w.on(d.Copy())
	for range 2 {
		y.is("k")
		y.reopen(1, 1, 1)
	}
	for k := 0; times > 0; k++ {
		c := d.Copy()
		c.Fuse(k)
		_, e := store.Open(c)
		c.Fuse(-1)
		for _, x := range crashes(c) {
			stays(t, seen, w, x, times-1)
		}
		if e == api.OK {
			return
		}
	}
}

// isOnce does a command again, that comes to this: it is as if it had been done once, however often, behind crashes too.
func (w *world) isOnce(c api.Command, end api.Done) {
	w.t.Helper()
	want := end
	if n := len(w.m.batches); end.Kind == api.DDone && n > 0 && w.m.batches[n-1].Key == c.Key {
		want.Kind = api.DAgain
	}
	for i := range 3 {
		if got := w.run(c); got != want {
			w.t.Fatalf("%+v, again: %+v, not %+v", c, got, want)
		}
		w.is(c.Key)
		if want.Kind == api.DDone {
			want.Kind = api.DAgain
		}
		w.reopen(i, i, i)
	}
}

// P16.4: a device that stops ahead of each operation in an append, with what a crash keeps of it: all of the command's events are there, or none; all, if it came to DDone. It is done again with its key then, and comes to what it would have come to.
func TestAppendsThatStop(t *testing.T) {
	for _, c := range scenes() {
		t.Run(c.name, func(t *testing.T) {
			t.Parallel()
			first := begun(t, c.blocks, c.r)
			c.before(first)
			last, x := c.begun(t, first)
			was := last.m.copy()
			end := last.step(x)
			seen, left := map[string]bool{}, [2]int{}
			for k := 0; ; k++ {
				w, x := c.begun(t, first)
				w.d.Fuse(k)
				d, is := x.j.Step(w.s, w.r, w.l)
				w.d.Fuse(-1)
				if !is || d != end && (d != down || !w.d.Down()) {
					t.Fatalf("stopped at %d: %+v, %v", k, d, is)
				}
				for _, dev := range crashes(w.d) {
					y := w.on(dev.Copy())
					if d == end {
						y.isEither(last.m)
					} else {
						y.isEither(was, last.m)
					}
					left[len(y.m.batches)-len(was.batches)]++
					stays(t, seen, y, dev, 1)
					y.isDone(x, d)
					if c.c.Key != "" && c.late < 3 {
						y.isOnce(c.c, end)
					}
				}
				if d == end {
					break
				}
			}
			if left[0] == 0 || (left[1] > 0) != (end.Kind == api.DDone) {
				t.Errorf("%v are left, of %+v", left, end)
			}
			if want := map[int]int{3: api.DConflict}[c.late]; want != 0 && end.Kind != want {
				t.Errorf("%+v", end)
			}
		})
	}
}

// P16.4: a device that stops ahead of each operation as a job loads: nothing was written, and the command is done behind the crash.
func TestLoadsThatStop(t *testing.T) {
	for _, c := range scenes() {
		t.Run(c.name, func(t *testing.T) {
			t.Parallel()
			first := begun(t, c.blocks, c.r)
			c.before(first)
			stopped := 0
			for k := 0; ; k++ {
				w := first.again()
				was := bytesOf(t, w.d)
				x := w.job(c.c)
				w.d.Fuse(k)
				d, is := x.j.Step(w.s, w.r, w.l)
				if len(w.d.Pending()) != 0 || bytesOf(t, w.d) != was {
					t.Fatalf("stopped at %d: something was written", k)
				}
				w.is(c.c.Key)
				if !w.d.Down() {
					if d != notYet || is {
						t.Fatalf("a fuse at %d: %+v, %v", k, d, is)
					}
					break
				}
				if stopped++; d != down || !is {
					t.Fatalf("stopped at %d: %+v, %v", k, d, is)
				}
				w.reopen()
				w.is(c.c.Key)
				if got := w.run(c.c); got.Kind != api.DDone && got != space {
					t.Fatalf("stopped at %d, and again: %+v", k, got)
				}
				w.is(c.c.Key)
			}
			if strings.Contains(c.name, "behind kept states") && stopped == 0 {
				t.Error("never stopped")
			}
		})
	}
}

// P16.4: a job that was to append when the device went down goes on with the store that is opened anew, whatever a crash has kept of another one's append; also of the same command's.
func TestJobsBehindACrash(t *testing.T) {
	for _, c := range []api.Command{keyed(take(2), "k"), take(2), expecting(take(2), 1), expecting(keyed(take(2), "k"), 1), keyed(take(3), "l"), keyed(take(4), "l"), order("box", "open", "k", 1), order("box", "open", "l", 1)} {
		kinds := map[int]int{}
		first := acc(t, 64)
		for k := 0; ; k++ {
			stopped := false
			for i := 0; ; i++ {
				w := first.again()
				x, y := w.loaded(keyed(take(2), "k")), w.loaded(c)
				was := w.m.copy()
				after := was.copy()
				after.step(&plainJob{c: x.p.c, decided: true, version: x.p.version, events: x.p.events}, w.r, w.l)
				w.d.Fuse(k)
				d, _ := x.j.Step(w.s, w.r, w.l)
				stopped = d == down
				l := crashes(w.d)
				if i == len(l) {
					break
				}
				w.d = l[i]
				w.s = open(t, w.d)
				w.isEither(was, after)
				for range 3 {
					kinds[w.step(y).Kind]++
				}
				w.is("k", "l")
				w.isDone(x, d)
			}
			if !stopped {
				break
			}
		}
		if len(kinds) < 2 && c.Stream == "acc" {
			t.Errorf("%+v: %v", c, kinds)
		}
	}
}

// P16.4: commands one behind the other, of which each stops ahead of each operation, and is sent again with its key till it is answered: in the end the log has each of them once, in their order.
func TestOneBehindTheOther(t *testing.T) {
	for i, l := range [][]api.Command{
		{order("acc", "open", "1", 9), keyed(take(2), "2"), keyed(take(3), "3")},
		{order("acc", "open", "1", 9), order("box", "open", "2", 4), order("box", "take", "3", 1)},
		{order("acc", "open", "1", 1), keyed(take(2), "2"), keyed(take(1), "3")},
		{expecting(order("acc", "open", "1", 1), 0), expecting(order("acc", "open", "2", 2), 1), expecting(order("acc", "open", "3", 3), 2)},
	} {
		t.Run(fmt.Sprint(i), func(t *testing.T) {
			t.Parallel()
			w := begun(t, 64, chapter())
			stopAll(t, map[string]bool{}, w, w.d, l)
		})
	}
}

func stopAll(t *testing.T, seen map[string]bool, first *world, d *blockdev.Device, l []api.Command) {
	t.Helper()
	key := fmt.Sprint(bytesOf(t, d), len(l))
	if len(l) == 0 || seen[key] {
		return
	}
	seen[key] = true
	last := first.on(d.Copy())
	was := last.m.copy()
	end := last.run(l[0])
	again := end
	if end.Kind == api.DDone {
		again.Kind = api.DAgain
	}
	for k := 0; ; k++ {
		w := first.on(d.Copy())
		w.d.Fuse(k)
		got := api.Done{}
		for j := New(l[0]); got == notYet; {
			got, _ = j.Step(w.s, w.r, w.l)
		}
		w.d.Fuse(-1)
		if got != down && got != end {
			t.Fatalf("%+v: %+v, not %+v", l[0], got, end)
		}
		for _, x := range crashes(w.d) {
			y := first.on(x)
			y.isEither(was, last.m)
			there := len(y.m.batches) > len(was.batches)
			if got == end && end.Kind == api.DDone && !there {
				t.Fatalf("%+v: it is lost", l[0])
			}
			// Sent again, it is answered as at first, and the log is as it would have been.
			want := end
			if there {
				want = again
			}
			if d := y.run(l[0]); d != want {
				t.Fatalf("%+v, again: %+v, not %+v", l[0], d, want)
			}
			y.isEither(last.m)
			stopAll(t, seen, y, y.d, l[1:])
		}
		if got == end {
			return
		}
	}
}
