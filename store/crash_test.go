package store

import (
	"fmt"
	"testing"

	"cartulary/api"
	"cartulary/blockdev"
)

// scene is what was done ahead of a call, and that.
type scene struct {
	name   string
	blocks int
	before func(*world)
	do     func(*Store) api.Errno
	then   func(*model)
	times  int // how often it stops behind that, while it is opened
}

// appending is a scene of an Append to the stream s, with the key key.
func appending(name string, before func(*world), l func(first int) []api.Event) scene {
	return scene{name, 64, before, func(s *Store) api.Errno {
		n := s.Version("s")
		_, e := s.Append("s", n, "key", l(n))
		return e
	}, func(m *model) { m.append("s", -1, "key", l(m.version("s"))) }, 2}
}

// saving is a scene of a Save under the name x.
func saving(name string, before func(*world), data string) scene {
	return scene{name, 64, before, func(s *Store) api.Errno { return s.Save("x", []byte(data)) }, func(m *model) { m.save("x", data) }, 2}
}

// dropping is a scene of a Drop of the name x.
func dropping(name string, before func(*world)) scene {
	return scene{name, 64, before, func(s *Store) api.Errno { return s.Drop("x") }, func(m *model) { m.drop("x") }, 2}
}

func scenes() []scene {
	few := func(n int) func(int) []api.Event {
		return func(first int) []api.Event { return events(first, n) }
	}
	bytes := func(n int) func(int) []api.Event {
		return func(first int) []api.Event { return sized("s", "key", first, n) }
	}
	none := func(*world) {}
	some := func(w *world) {
		w.adds("s", "k", 2)
		w.adds("other", "", 1)
		w.saves("x", text(1, 700))
		w.saves("y", "y")
	}
	large, largeToo := appending("Append, on 512 blocks", some, few(3)), saving("Save, on 512 blocks", some, text(2, 1300))
	large.blocks, large.times = 512, 1
	largeToo.blocks, largeToo.times = 512, 1
	return []scene{
		large, largeToo,
		appending("Append, the first", none, few(1)),
		appending("Append, behind others", some, few(3)),
		appending("Append, over two blocks", func(w *world) { w.sizedBatch(490) }, bytes(100)),
		appending("Append, the longest", some, bytes(2000)),
		appending("Append, a new segment", func(w *world) {
			for range 4 {
				w.sizedBatch(2000)
			}
		}, bytes(200)),
		appending("Append, all the room", func(w *world) {
			some(w)
			w.leave(3)
		}, bytes(1700)),
		saving("Save, the first", none, "x"),
		saving("Save, nothing", none, ""),
		saving("Save, beside others", func(w *world) {
			w.adds("s", "k", 2)
			w.saves("y", text(1, 900))
		}, text(2, 1200)),
		saving("Save, in place", some, text(2, 1300)),
		saving("Save, in place of the same", some, text(1, 700)),
		saving("Save, nothing in place", some, ""),
		saving("Save, the longest", some, text(3, 8000)),
		saving("Save, all the room", func(w *world) {
			some(w)
			w.leave(4)
		}, text(2, 2048)),
		dropping("Drop, alone", func(w *world) { w.saves("x", text(1, 600)) }),
		dropping("Drop, of several", some),
		dropping("Drop, nothing", func(w *world) { w.saves("x", "") }),
		dropping("Drop, the longest", func(w *world) {
			some(w)
			w.saves("x", text(2, 8000))
		}),
	}
}

// begun is the world of a scene.
func (c scene) begun(t testing.TB) *world {
	t.Helper()
	w := begin(t, c.blocks)
	c.before(w)
	return w
}

// next is the model behind the scene's call.
func (c scene) next(m *model) *model {
	m = m.copy()
	c.then(m)
	return m
}

// keys are those that are asked for in these tests.
func keys() []string { return []string{"k", "key", ""} }

// told is what is told of a copy of a device on which the store is opened.
func told(t testing.TB, d *blockdev.Device) string {
	t.Helper()
	c := d.Copy()
	c.Fuse(-1)
	return tell(t, open(t, c), nil, keys()...)
}

// wanted is what is to be told so of a model.
func wanted(m *model) string { return m.want(nil, keys()...) }

// stays asks whether what is told behind a crash stays so: when it is opened again, through crashes, and where that stops ahead of each operation, so many times behind one another.
func stays(t testing.TB, seen known, d *blockdev.Device, want string, times int) {
	t.Helper()
	if seen.has(t, d, want, times) {
		return
	}
	c := d.Copy()
	for range 2 {
		if got := tell(t, open(t, c), nil, keys()...); got != want {
			t.Fatalf("%s\ndoes not stay, but is\n%s", brief(want), brief(got))
		}
		c.Crash([]int{1, 1, 1})
	}
	if times == 0 {
		return
	}
	for k := 0; ; k++ {
		c := d.Copy()
		c.Fuse(k)
		s, e := Open(c)
		c.Fuse(-1)
		for _, y := range crashes(c) {
			stays(t, seen, y, want, times-1)
		}
		if e == api.OK {
			return
		}
		if s != nil || e != api.ErrDown || !c.Down() {
			t.Fatalf("stopped at %d, while it is opened: %v", k, e)
		}
	}
}

// P11.5: Appends, Saves and Drops that stop ahead of each operation, with each crash: all is left as it was, or as it was to be; and it stays so, where Open stops too, again and again.
func TestCallsThatStop(t *testing.T) {
	for _, c := range scenes() {
		t.Run(c.name, func(t *testing.T) {
			t.Parallel()
			begun, seen, left := c.begun(t), known{}, map[bool]int{}
			was, next := wanted(begun.m), wanted(c.next(begun.m))
			for k := 0; ; k++ {
				w := begun.again()
				w.d.Fuse(k)
				e := c.do(w.s)
				w.d.Fuse(-1)
				for _, x := range crashes(w.d) {
					if seen.has(t, x, e == api.OK) {
						continue
					}
					got := told(t, x)
					if got != next && (got != was || e == api.OK) {
						t.Fatalf("stopped at %d: %s", k, brief(got))
					}
					left[got == next]++
					stays(t, seen, x, got, c.times)
				}
				if e == api.OK {
					break
				}
				if e != api.ErrDown || !w.d.Down() {
					t.Fatalf("stopped at %d: %v", k, e)
				}
			}
			if was != next && (left[true] == 0 || left[false] == 0) {
				t.Errorf("one of both is never left: %v", left)
			}
		})
	}
}

// P11.5: what is left behind a stop goes on: the call is done again, and all is as it was to be, the files too.
func TestGoesOn(t *testing.T) {
	for _, c := range scenes() {
		t.Run(c.name, func(t *testing.T) {
			t.Parallel()
			begun, seen := c.begun(t), known{}
			next := c.next(begun.m)
			for k := 0; ; k++ {
				w := begun.again()
				w.d.Fuse(k)
				e := c.do(w.s)
				w.d.Fuse(-1)
				for _, x := range crashes(w.d) {
					if seen.has(t, x) {
						continue
					}
					y := &world{t, x, open(t, x), next}
					if f := c.do(y.s); f != api.OK && f != api.ErrStoreNone && f != api.ErrStoreSpace {
						t.Fatalf("stopped at %d, and again: %v", k, f)
					}
					y.is("k", "key")
					y.reopen()
					y.is("k", "key")
				}
				if e == api.OK {
					break
				}
			}
		})
	}
}

// P11.7: an append that stopped, ahead of each operation, with each crash, and is done again with its key: its events are there once, and it is answered as at first.
func TestAgainBehindCrashes(t *testing.T) {
	for _, begun := range []*world{begin(t, 64), grown(t, 64)} {
		l, n := events(5, 3), begun.m.version("s")
		want := api.Appended{First: n, Pos: begun.m.length(), Count: 3}
		seen, left := known{}, map[bool]int{}
		for k := 0; ; k++ {
			w := begun.again()
			w.d.Fuse(k)
			_, e := w.s.Append("s", n, "key", l)
			w.d.Fuse(-1)
			for _, x := range crashes(w.d) {
				if seen.has(t, x, e) {
					continue
				}
				s := open(t, x)
				a, f := s.Append("s", n, "key", l)
				left[a.Again]++
				if e == api.OK && !a.Again {
					t.Fatalf("stopped at %d: it is not there", k)
				}
				again, g := s.Append("s", n, "key", nil)
				if a.Again = false; a != want || f != api.OK || !again.Again {
					t.Fatalf("stopped at %d: %v, %v, %v", k, a, again, f)
				}
				if again.Again = false; again != want || g != api.OK || s.Length() != begun.m.length()+3 {
					t.Fatalf("stopped at %d: %v, %v, %d events", k, again, g, s.Length())
				}
			}
			if e == api.OK {
				break
			}
		}
		if left[true] == 0 || left[false] == 0 {
			t.Errorf("%v", left)
		}
	}
}

// P11.1, P11.5: Formats that stop ahead of each operation, with each crash: an empty store is left, or none, or the one that lay there; and when it is done again it is empty.
func TestFormatsThatStop(t *testing.T) {
	elder := grown(t, 64)
	empty := wanted(&model{blocks: 64})
	for name, d := range map[string]*blockdev.Device{"noughts": device(t, 64), "empty": laid(t, 64), "elder": elder.d} {
		t.Run(name, func(t *testing.T) {
			t.Parallel()
			was := ""
			if name != "noughts" {
				was = told(t, d)
			}
			seen, left := known{}, map[string]int{}
			for k := 0; ; k++ {
				c := d.Copy()
				c.Fuse(k)
				e := Format(c)
				c.Fuse(-1)
				for _, x := range crashes(c) {
					if seen.has(t, x, e) {
						continue
					}
					got := formatted(t, x, k, map[string]bool{"": e != api.OK, was: e != api.OK, empty: true})
					left[got]++
					if got != "" {
						stays(t, seen, x, got, 1)
					}
					if f := Format(x); f != api.OK || told(t, x) != empty {
						t.Fatalf("stopped at %d, and again: %v", k, f)
					}
				}
				if e == api.OK {
					break
				}
				if e != api.ErrDown || !c.Down() {
					t.Fatalf("stopped at %d: %v", k, e)
				}
			}
			if left[""] == 0 || left[empty] == 0 || left[was] == 0 {
				t.Errorf("%v", left)
			}
		})
	}
}

// formatted is what is told of a device that a Format left, nothing where no store lies there; it must be one of these.
func formatted(t *testing.T, d *blockdev.Device, k int, allowed map[string]bool) string {
	t.Helper()
	got := ""
	switch s, e := Open(d.Copy()); {
	case e == api.OK:
		got = tell(t, s, nil, keys()...)
	case s != nil || e != api.ErrFsForm:
		t.Fatalf("stopped at %d: Open: %v", k, e)
	}
	if !allowed[got] {
		t.Fatalf("stopped at %d: %s", k, brief(got))
	}
	return got
}

// P11.5: calls one behind the other, of which each stops ahead of each operation; what is left then is what the next one begins with.
func TestOneBehindTheOther(t *testing.T) {
	l := []scene{
		appending("", nil, func(int) []api.Event { return events(7, 2) }),
		saving("", nil, text(2, 300)),
		dropping("", nil),
	}
	for i, order := range [][]int{{0, 1, 2}, {1, 0, 2}, {2, 1, 0}} {
		t.Run(fmt.Sprint(i), func(t *testing.T) {
			t.Parallel()
			w := begin(t, 64)
			w.adds("s", "k", 1)
			w.saves("x", "elder")
			var all []scene
			for _, n := range order {
				all = append(all, l[n])
			}
			stopAll(t, known{}, w, all)
		})
	}
}

func stopAll(t *testing.T, seen known, begun *world, all []scene) {
	t.Helper()
	if len(all) == 0 || seen.has(t, begun.d, len(all), wanted(begun.m)) {
		return
	}
	c := all[0]
	was, next := wanted(begun.m), c.next(begun.m)
	for k := 0; ; k++ {
		w := begun.again()
		w.d.Fuse(k)
		e := c.do(w.s)
		w.d.Fuse(-1)
		for _, x := range crashes(w.d) {
			y := &world{t: t, d: x, m: begun.m}
			got := told(t, x)
			if got != was || e != api.ErrDown {
				y.m = next
			}
			if got != wanted(y.m) {
				t.Fatalf("stopped at %d: %s\nnot\n%s", k, brief(got), brief(wanted(y.m)))
			}
			stopAll(t, seen, y, all[1:])
		}
		if e != api.ErrDown { // a Drop of what is not there is refused
			return
		}
	}
}
