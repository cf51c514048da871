package project

import (
	"fmt"
	"slices"
	"strings"
	"testing"

	"cartulary/api"
	"cartulary/blockdev"
	"cartulary/store"
)

// scene is what was done ahead of a Save of a view of the last cursor.
type scene struct {
	name   string
	blocks int
	p      api.Projection
	cursor int // of the view that is saved
	before func(w *world)
}

func scenes() []scene {
	other := named("other", chapter().Sums...)
	log := func(w *world) {
		w.add("acc", opened(5), given(2), given(3))
		w.add("box", given(1), given(4))
		w.s.Save("x", []byte(strings.Repeat("x", 700)))
	}
	once := func(cursor int) func(w *world) {
		return func(w *world) {
			log(w)
			w.save(w.view(chapter(), cursor))
		}
	}
	long := func(rows, saved int) func(w *world) {
		return func(w *world) {
			longRows(w, rows, 200)
			w.save(w.view(byKey(), saved))
		}
	}
	return []scene{
		{"the first", 64, chapter(), 5, log},
		{"of no events", 64, chapter(), 0, log},
		{"the second", 64, chapter(), 5, once(2)},
		{"the second, on 512 blocks", 512, chapter(), 4, once(2)},
		{"an elder over a newer", 64, chapter(), 2, once(5)},
		{"none over one", 64, chapter(), 0, once(5)},
		{"the same again", 64, chapter(), 3, once(3)},
		{"the third, behind a crash", 64, chapter(), 5, func(w *world) {
			once(2)(w)
			w.save(w.view(chapter(), 3))
			w.reopen(1, 0)
			w.add("acc", given(6))
		}},
		{"beside another one's", 64, chapter(), 5, func(w *world) {
			once(1)(w)
			w.save(w.view(other, 3))
		}},
		{"a long one over a short one", 64, byKey(), 12, long(12, 1)},
		{"a short one over a long one", 64, byKey(), 1, long(12, 12)},
		{"one that is too long", 256, byKey(), 45, long(45, 5)},
		{"behind one that was dropped", 64, chapter(), 4, func(w *world) {
			once(5)(w)
			w.s.Drop("view.sums")
		}},
		{"over another log's", 64, chapter(), 4, func(w *world) {
			log(w)
			v := New(chapter(), nil)
			takes(w.t, v, "acc", given(100), given(200), given(300))
			w.saves(v)
		}},
		{"without room", 64, chapter(), 5, func(w *world) {
			once(2)(w)
			w.filled(0)
		}},
	}
}

// stays asks whether what Open tells behind a crash is a view of this cursor, and stays so where Open of the store stops ahead of each operation, so many times behind one another.
func stays(t *testing.T, seen map[string]bool, begun *world, d *blockdev.Device, c scene, cursor, times int) {
	t.Helper()
	key := fmt.Sprint(bytesOf(t, d), cursor, times)
	if seen[key] {
		return
	}
	seen[key] = true
	w := begun.on(d.Copy())
	for range 2 {
		w.isLog()
		w.opens(c.p, cursor)
		w.goesOn(c.p)
		w.reopen(1, 1, 1)
	}
	for k := 0; times > 0; k++ {
		x := d.Copy()
		x.Fuse(k)
		_, e := store.Open(x)
		x.Fuse(-1)
		for _, y := range crashes(x) {
			stays(t, seen, begun, y, c, cursor, times-1)
		}
		if e == api.OK {
			return
		}
	}
}

// P17.4, P17.5: a device that stops ahead of each operation in a Save, with what a crash keeps of it: Open gives the view that was saved ahead, or this one; this one, if Save has answered OK. Its rows are those of its events, and it goes on. It is saved again then, and that goes well.
func TestSavesThatStop(t *testing.T) {
	for _, c := range scenes() {
		t.Run(c.name, func(t *testing.T) {
			t.Parallel()
			begun := begun(t, c.blocks)
			c.before(begun)
			v, was := begun.view(c.p, c.cursor), begun.open(c.p).Cursor()
			rows := v.Rows()
			last := begun.again()
			end := v.Save(last.s)
			then := last.open(c.p).Cursor()
			seen, left := map[string]bool{}, map[int]int{}
			for k := 0; ; k++ {
				w := begun.again()
				w.d.Fuse(k)
				e := v.Save(w.s)
				w.d.Fuse(-1)
				told(t, v, c.cursor, rows...)
				for _, x := range crashes(w.d) {
					y := begun.on(x.Copy())
					cursor := y.open(c.p).Cursor()
					if cursor != then && (cursor != was || e == api.OK) {
						t.Fatalf("stopped at %d: the cursor %d, not %d or %d", k, cursor, was, then)
					}
					left[cursor]++
					stays(t, seen, begun, x, c, cursor, 1)
					if f := v.Save(y.s); f != end {
						t.Fatalf("stopped at %d, and again: %v, not %v", k, f, end)
					}
					y.opens(c.p, then)
					y.isLog()
				}
				if e == end {
					break
				}
				if e != api.ErrDown || !w.d.Down() {
					t.Fatalf("stopped at %d: %v", k, e)
				}
			}
			if then != was && (left[was] == 0 || left[then] == 0) {
				t.Errorf("one of both is never left: %v", left)
			}
			if end == api.OK && then != c.cursor && c.name != "one that is too long" {
				t.Errorf("the cursor %d, not %d", then, c.cursor)
			}
		})
	}
}

// P17.4: Open of a view that stops ahead of each operation: ErrDown and no view, or the view, and nothing has changed behind the crash.
func TestOpensThatStop(t *testing.T) {
	for _, saved := range []int{0, 3, 5} {
		begun := begun(t, 64)
		longRows(begun, 5, 190)
		if saved > 0 {
			begun.save(begun.view(byKey(), saved))
		}
		was := bytesOf(t, begun.d)
		for k := 0; ; k++ {
			w := begun.again()
			w.d.Fuse(k)
			v, e := Open(w.s, byKey(), nil)
			w.d.Fuse(-1)
			if e == api.OK {
				w.is(v, byKey())
				if v.Cursor() != saved || w.d.Down() || k == 0 && saved > 0 {
					t.Errorf("stopped at %d: the cursor %d", k, v.Cursor())
				}
				break
			}
			if v != nil || e != api.ErrDown || !w.d.Down() {
				t.Fatalf("stopped at %d: %v, %v", k, v, e)
			}
			for _, x := range crashes(w.d) {
				if bytesOf(t, x) != was {
					t.Errorf("stopped at %d: something has changed", k)
				}
				y := begun.on(x)
				y.opens(byKey(), saved)
				y.goesOn(byKey())
			}
		}
	}
}

// P17.4: what a Save that answered OK has saved is durable: every crash from then on leaves it, whatever is done behind it and stops.
func TestDurable(t *testing.T) {
	begun := begun(t, 64)
	begun.add("acc", opened(5), given(2), given(3))
	begun.s.Save("x", make([]byte, 700))
	begun.save(begun.view(chapter(), 2))
	other := named("other", chapter().Sums...)
	for _, do := range []func(w *world) api.Errno{
		func(w *world) api.Errno { _, e := w.s.Append("acc", -1, "k", []api.Event{given(7)}); return e },
		func(w *world) api.Errno { _, e := w.s.Append("box", -1, "k", []api.Event{given(7)}); return e },
		func(w *world) api.Errno { return w.s.Save("x", make([]byte, 2000)) },
		func(w *world) api.Errno { return w.s.Drop("x") },
		func(w *world) api.Errno { return w.view(other, 3).Save(w.s) },
		func(w *world) api.Errno { _, e := Open(w.s, chapter(), nil); return e },
		func(w *world) api.Errno { _, e := Open(w.s, other, nil); return e },
	} {
		for k := 0; ; k++ {
			w := begun.again()
			w.d.Fuse(k)
			e := do(w)
			w.d.Fuse(-1)
			for _, x := range crashes(w.d) {
				y := begun.on(x)
				all, _ := y.s.All(3, most)
				for _, x := range all {
					y.note(x.Stream, []api.Event{x.Event})
				}
				y.opens(chapter(), 2)
				y.goesOn(chapter())
			}
			if e != api.ErrDown {
				break
			}
		}
	}
}

// P17.5: appends and Saves one behind the other, of which each stops ahead of each operation; what is left then is what the next one begins with. The cursor is one of those that were saved, and never more than the store has events.
func TestOneBehindTheOther(t *testing.T) {
	begun := begun(t, 64)
	begun.add("acc", given(1))
	begun.save(begun.view(chapter(), 1))
	for i, order := range []string{"as", "ass", "sas", "aas", "asx"} {
		t.Run(fmt.Sprint(i), func(t *testing.T) {
			t.Parallel()
			stopAll(t, map[string]bool{}, begun, begun.d, order)
		})
	}
}

// stopAll does an append, a Save of all that there is, or a Drop, then the others.
func stopAll(t *testing.T, seen map[string]bool, begun *world, d *blockdev.Device, order string) {
	t.Helper()
	key := fmt.Sprint(bytesOf(t, d), order)
	if order == "" || seen[key] {
		return
	}
	seen[key] = true
	for k := 0; ; k++ {
		w := &world{t: t, d: d.Copy(), l: begun.l}
		w.s = openStore(t, w.d)
		w.log, _ = w.s.All(0, most)
		cursor, had := w.open(chapter()).Cursor(), len(w.log)
		v := w.view(chapter(), had)
		w.d.Fuse(k)
		e := api.OK
		switch order[0] {
		case 'a':
			_, e = w.s.Append("box", -1, "", []api.Event{given(2), given(3)})
		case 's':
			e = v.Save(w.s)
		case 'x':
			e = w.s.Drop("view.sums")
		}
		w.d.Fuse(-1)
		for _, x := range crashes(w.d) {
			y := &world{t: t, d: x, s: openStore(t, x), l: begun.l}
			y.log, _ = y.s.All(0, most)
			now := y.open(chapter()).Cursor()
			allowed := map[byte][]int{'a': {cursor}, 's': {cursor, had}, 'x': {cursor, 0}}[order[0]]
			if e == api.OK {
				allowed = allowed[len(allowed)-1:]
			}
			if !slices.Contains(allowed, now) || len(y.log) != had && (order[0] != 'a' || len(y.log) != had+2) {
				t.Fatalf("%s: stopped at %d: the cursor %d, not one of %v; %d events, which were %d", order, k, now, allowed, len(y.log), had)
			}
			y.goesOn(chapter())
			stopAll(t, seen, begun, x, order[1:])
		}
		if e == api.OK {
			return
		}
	}
}

// P17.5: a view goes on with the store that was opened behind a crash: what it has taken is still there.
func TestViewsOutliveCrashes(t *testing.T) {
	begun := begun(t, 64)
	begun.add("acc", given(1), given(2))
	for k := 0; ; k++ {
		w := begun.again()
		v := w.view(chapter(), 2)
		w.d.Fuse(k)
		_, e := w.s.Append("box", -1, "", []api.Event{given(3), given(4)})
		w.d.Fuse(-1)
		n, f := v.Tick(w.s, most)
		if f != api.OK || e != api.OK && n != 0 || e == api.OK && n != 2 {
			t.Fatalf("stopped at %d: Tick: %d, %v", k, n, f)
		}
		for _, x := range crashes(w.d) {
			y := &world{t: t, d: x, s: openStore(t, x)}
			y.log, _ = y.s.All(0, most)
			z := *v.state
			z.rows = map[string]int{}
			for _, r := range v.Rows() {
				z.rows[r.Key] = r.N
			}
			later := &View{&z}
			y.tick(later, chapter(), most)
			y.save(later)
			y.opens(chapter(), len(y.log))
		}
		if e == api.OK {
			return
		}
	}
}
