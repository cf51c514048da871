package snapshot

import (
	"fmt"
	"slices"
	"strings"
	"testing"

	"cartulary/api"
	"cartulary/blockdev"
	"cartulary/store"
)

// scene is what was done ahead of a Take of the stream `stream`.
type scene struct {
	name   string
	blocks int
	r      api.Rules
	before func(w *world)
}

func scenes() []scene {
	begun := func(w *world) {
		w.add("stream", opened(50), taken(1))
		w.add("other", opened(7))
		w.save("x", strings.Repeat("x", 700))
	}
	once := func(w *world) {
		begun(w)
		w.take("stream")
		w.add("stream", taken(2))
		w.take("other")
	}
	twice := func(w *world) {
		once(w)
		w.take("stream")
		w.add("stream", taken(3), taken(4))
	}
	long := func(n int) func(w *world) {
		return func(w *world) {
			w.add("stream", event("begin", 0), event("fill", 0, words("s", strings.Repeat("\xff", n))))
			w.take("stream")
			w.add("stream", event("count", 0))
		}
	}
	return []scene{
		{"the first", 64, chapter(), begun},
		{"the second", 64, chapter(), once},
		{"the third", 64, chapter(), twice},
		{"the third, on 512 blocks", 512, chapter(), twice},
		{"the fourth, behind a crash", 64, chapter(), func(w *world) {
			twice(w)
			w.take("stream")
			w.add("stream", taken(5))
			w.reopen(1, 0)
		}},
		{"the same again", 64, chapter(), func(w *world) {
			once(w)
			w.take("stream")
		}},
		{"of a long state", 64, full(4), long(200)},
		{"of the longest state", 64, full(12), long(200)},
		{"in the place of others that share the names", 64, chapter(), func(w *world) {
			begun(w)
			for _, stream := range alike("stream") {
				w.add(stream, opened(3), taken(1))
				w.take(stream)
				w.add(stream, taken(1))
			}
		}},
		{"in the place of what is not whole", 64, chapter(), func(w *world) {
			begun(w)
			for _, name := range names("stream") {
				w.save(name, "torn")
			}
		}},
		{"of no events", 64, chapter(), func(w *world) { w.add("other", opened(1)) }},
		{"of what is no record", 64, table(does("opened", as("A", num(1)))), func(w *world) { w.add("stream", opened(1)) }},
		{"without room", 64, chapter(), func(w *world) {
			twice(w)
			w.take("stream")
			for i := 0; w.s.Save(fmt.Sprint("fill", i), make([]byte, 512)) == api.OK; i++ {
				w.saved[fmt.Sprint("fill", i)] = string(make([]byte, 512))
			}
		}},
	}
}

func (c scene) begun(t testing.TB) *world {
	t.Helper()
	w := begin(t, c.blocks, c.r)
	c.before(w)
	return w
}

// stays asks whether all that is told behind a crash is as it is to be, and stays so where Open stops ahead of each operation, so many times behind one another; Load's last number too.
func stays(t *testing.T, seen map[string]bool, begun *world, d *blockdev.Device, from, times int) {
	t.Helper()
	key := fmt.Sprint(bytesOf(t, d), from, times)
	if seen[key] {
		return
	}
	seen[key] = true
	w := begun.on(d.Copy())
	for range 2 {
		w.loads("stream", from)
		w.is()
		w.reopen(1, 1, 1)
	}
	for k := 0; times > 0; k++ {
		c := d.Copy()
		c.Fuse(k)
		_, e := store.Open(c)
		c.Fuse(-1)
		for _, x := range crashes(c) {
			stays(t, seen, begun, x, from, times-1)
		}
		if e == api.OK {
			return
		}
	}
}

// P15.4: a device that stops ahead of each operation in a Take, with what a crash keeps of it: all is told as it would have been; Load's last number is what it was, or that of this Take, and it is this one, if Take has answered OK. It is done again then, and goes well.
func TestTakesThatStop(t *testing.T) {
	for _, c := range scenes() {
		t.Run(c.name, func(t *testing.T) {
			t.Parallel()
			begun := c.begun(t)
			was, n := begun.load("stream"), begun.count("stream")
			last := begun.again()
			end := Take(last.s, last.r, last.l, "stream")
			then := last.load("stream")
			if end == api.OK && then != was {
				begun.noteTake("stream")
			}
			seen, left := map[string]bool{}, map[int]int{}
			for k := 0; ; k++ {
				w := begun.again()
				w.d.Fuse(k)
				e := Take(w.s, w.r, w.l, "stream")
				w.d.Fuse(-1)
				for _, x := range crashes(w.d) {
					y := begun.on(x.Copy())
					from := y.load("stream")
					if from != then && (from != was || e == api.OK) {
						t.Fatalf("stopped at %d: from %d, not %d or %d", k, from, was, then)
					}
					left[from]++
					y.is()
					stays(t, seen, begun, x, from, 1)
					if f := Take(y.s, y.r, y.l, "stream"); f != end {
						t.Fatalf("stopped at %d, and again: %v, not %v", k, f, end)
					}
					y.loads("stream", then)
					y.is()
				}
				if e == end {
					break
				}
				if e != api.ErrDown || !w.d.Down() {
					t.Fatalf("stopped at %d: %v", k, e)
				}
			}
			if then != was && (left[was] == 0 || left[then] == 0) {
				t.Errorf("one of both is never left: %v", left)
			}
			if then != was && then != n {
				t.Errorf("from %d, of %d", then, n)
			}
		})
	}
}

// P15.2: what a Take that answered OK has kept is durable: every crash from then on leaves it, whatever is done behind it and stops.
func TestDurable(t *testing.T) {
	begun := begin(t, 64, chapter())
	begun.add("stream", opened(50), taken(1))
	begun.take("stream")
	for i, do := range []func(w *world) api.Errno{
		func(w *world) api.Errno { _, e := w.s.Append("stream", -1, "k", []api.Event{taken(7)}); return e },
		func(w *world) api.Errno { _, e := w.s.Append("other", -1, "k", []api.Event{taken(7)}); return e },
		func(w *world) api.Errno { return w.s.Save("x", make([]byte, 2000)) },
		func(w *world) api.Errno { return w.s.Drop("x") },
		func(w *world) api.Errno { return Take(w.s, w.r, w.l, "other") },
		func(w *world) api.Errno { _, _, _, e := Load(w.s, w.r, w.l, "stream"); return e },
	} {
		for k := 0; ; k++ {
			w := begun.again()
			w.d.Fuse(k)
			e := do(w)
			w.d.Fuse(-1)
			for _, x := range crashes(w.d) {
				s := open(t, x)
				events, _ := s.Stream("stream", 0, most)
				var l []api.Event
				for _, x := range events {
					l = append(l, x.Event)
				}
				state, n, from, f := Load(s, begun.r, begun.l, "stream")
				if want := plainState(begun.r, begun.l, "stream", l); !slices.Equal(state, want) || n != len(l) || n < 2 || from != 2 || f != api.OK {
					t.Fatalf("call %d stopped at %d: %v, %d, %d, %v, not %v, %d", i, k, state, n, from, f, want, len(l))
				}
			}
			if e != api.ErrDown {
				break
			}
		}
	}
}

// P15.4: Takes of streams one behind the other, of which each stops ahead of each operation; what is left then is what the next one begins with.
func TestOneBehindTheOther(t *testing.T) {
	begun := begin(t, 64, chapter())
	twin := alike("stream")[0]
	for _, stream := range []string{"stream", twin, "other"} {
		begun.add(stream, opened(len(stream)), taken(1))
	}
	for i, order := range [][]string{{"stream", "stream", "other"}, {"stream", twin, "stream"}, {"other", twin, twin}} {
		t.Run(fmt.Sprint(i), func(t *testing.T) {
			t.Parallel()
			own := *begun
			own.t = t
			stopAll(t, map[string]bool{}, &own, begun.d, order)
		})
	}
}

func stopAll(t *testing.T, seen map[string]bool, begun *world, d *blockdev.Device, order []string) {
	t.Helper()
	key := fmt.Sprint(bytesOf(t, d), len(order))
	if len(order) == 0 || seen[key] {
		return
	}
	seen[key] = true
	stream := order[0]
	for k := 0; ; k++ {
		w := begun.on(d.Copy())
		w.d.Fuse(k)
		e := Take(w.s, w.r, w.l, stream)
		w.d.Fuse(-1)
		for _, x := range crashes(w.d) {
			y := begun.on(x)
			for other := range begun.events {
				y.taken[other] = []int{2}
			}
			y.is()
			if e == api.OK {
				y.loads(stream, 2)
			}
			stopAll(t, seen, begun, x, order[1:])
		}
		if e == api.OK {
			return
		}
	}
}
