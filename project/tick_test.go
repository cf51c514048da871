package project

import (
	"fmt"
	"math/rand"
	"slices"
	"strings"
	"testing"

	"cartulary/api"
	"cartulary/store"
)

// The chapter's examples, and those of the whole that speak of views.
func TestExamples(t *testing.T) {
	w := example(t)
	v := New(chapter(), nil)
	if n, e := v.Tick(w.s, 2); n != 2 || e != api.OK {
		t.Errorf("Tick: %d, %v", n, e)
	}
	told(t, v, 2, row("acc", 2))
	if n, e := v.Tick(w.s, 9); n != 2 || e != api.OK {
		t.Errorf("Tick: %d, %v", n, e)
	}
	told(t, v, 4, row("acc", 5), row("box", 1))
	if n, ok := v.Get("box"); n != 1 || !ok {
		t.Errorf("Get: %d, %v", n, ok)
	}
	if n, ok := v.Get("x"); n != 0 || ok {
		t.Errorf("Get: %d, %v", n, ok)
	}
	w.save(v)
	w.opens(chapter(), 4)
	told(t, w.open(chapter()), 4, row("acc", 5), row("box", 1))

	w = begun(t, 256)
	w.add("acc", opened(5))
	w.add("acc", given(2))
	v = w.open(chapter())
	told(t, v, 0)
	w.tick(v, chapter(), 10)
	told(t, v, 2, row("acc", 2))
}

// some is a world of so many events, in two streams.
func some(t testing.TB, n int) *world {
	t.Helper()
	w := begun(t, 128)
	for i := range n {
		w.add([]string{"acc", "box", "acc"}[i%3], given(i))
	}
	return w
}

// P17.3: Tick with most below 0, 0, fewer than are left, just as many, more; at each cursor.
func TestTicks(t *testing.T) {
	w := some(t, 9)
	for cursor := range 10 {
		for _, n := range []int{-1, -2, least, least + 1, -most} {
			v := w.view(chapter(), cursor)
			rows := v.Rows()
			if k, e := v.Tick(w.s, n); k != 0 || e != api.ErrArg {
				t.Errorf("Tick(%d): %d, %v", n, k, e)
			}
			told(t, v, cursor, rows...)
		}
		for _, n := range []int{0, 1, 2, 8 - cursor, 9 - cursor, 10 - cursor, 9, 10, 1000, 1 << 32, most - 1, most} {
			if n < 0 {
				continue
			}
			v := w.view(chapter(), cursor)
			w.tick(v, chapter(), n)
			w.tick(v, chapter(), 0)
			w.tick(v, chapter(), most)
			w.tick(v, chapter(), most)
			if v.Cursor() != 9 {
				t.Errorf("Cursor: %d", v.Cursor())
			}
		}
	}
	if n, e := New(chapter(), nil).Tick(begun(t, 64).s, 5); n != 0 || e != api.OK {
		t.Errorf("Tick of no events: %d, %v", n, e)
	}
}

// P17.3: however the events are cut into ticks, and when they come, the rows are the same; Take of what the store tells does as Tick does.
func TestCuts(t *testing.T) {
	w := begun(t, 128)
	r := rand.New(rand.NewSource(1))
	views := []*View{New(chapter(), nil), New(chapter(), nil), New(chapter(), nil)}
	taker := New(chapter(), nil)
	for i := range 120 {
		w.add(fmt.Sprint("s", r.Intn(9)), slices.Repeat([]api.Event{given(r.Intn(99) - 9)}, 1+r.Intn(3))...)
		w.tick(views[0], chapter(), 1)
		w.tick(views[1], chapter(), r.Intn(5))
		if i%20 == 19 {
			w.tick(views[2], chapter(), most)
		}
	}
	for range len(w.log) {
		w.tick(views[0], chapter(), 1)
	}
	w.tick(views[1], chapter(), len(w.log))
	all, _ := w.s.All(0, most)
	for _, x := range all {
		if !taker.Take(x) || taker.Take(x) {
			t.Fatalf("Take of %+v", x)
		}
	}
	for _, v := range append(views, taker) {
		if w.is(v, chapter()); v.Cursor() != len(w.log) {
			t.Errorf("Cursor: %d, not %d", v.Cursor(), len(w.log))
		}
	}
}

// P17.3: a view that has taken more events than the store has: there is nothing to take, till it has more.
func TestTickBeyond(t *testing.T) {
	w, other := some(t, 3), some(t, 5)
	v := other.view(chapter(), 5)
	rows := v.Rows()
	for i := range 3 {
		for _, n := range []int{0, 1, most} {
			if k, e := v.Tick(w.s, n); k != 0 || e != api.OK {
				t.Errorf("Tick(%d): %d, %v", n, k, e)
			}
		}
		told(t, v, 5, rows...)
		w.add([]string{"acc", "box", "acc"}[i], given(3+i))
	}
	w.tick(v, chapter(), most)
	if v.Cursor() != 6 {
		t.Errorf("Cursor: %d", v.Cursor())
	}
}

// P17.3: store's error of its events: of a store that was made by hand.
func TestTickWithoutEvents(t *testing.T) {
	w := some(t, 3)
	for cursor := range 4 {
		v := w.view(chapter(), cursor)
		rows := v.Rows()
		for _, n := range []int{0, 1, most, -1} {
			if k, e := v.Tick(&store.Store{}, n); k != 0 || e != api.ErrArg {
				t.Errorf("Tick(%d): %d, %v", n, k, e)
			}
		}
		told(t, v, cursor, rows...)
	}
}

// P17.3: all rows, by their keys, byte by byte, whatever the order in which they came.
func TestRowsInOrder(t *testing.T) {
	keys := []string{
		"", "\x00", "\x00\x00", "\x01", " ", "-1", "-10", "-2", "0", "1", "10", "2", "A", "Z", "_", "a", "a\x00", "aa", "ab", "b", "z", "zz", "\x7f", "\x80", "é", "€", "\xff", "\xff\x00", "\xff\xff",
		strings.Repeat("a", 199), strings.Repeat("a", 200),
	}
	r := rand.New(rand.NewSource(2))
	for range 50 {
		v := New(byKey(), nil)
		var rows []api.Row
		for n, i := range r.Perm(len(keys)) {
			takes(t, v, "s", adds(keys[i], i))
			rows = append(rows, row(keys[i], i))
			slices.SortFunc(rows, func(a, b api.Row) int { return slices.Compare([]byte(a.Key), []byte(b.Key)) })
			told(t, v, n+1, rows...)
		}
	}
}

// P17.3: Get of a key that is there, whatever its number, and of one that is not, though it be like one.
func TestGet(t *testing.T) {
	v := New(byKey(), nil)
	takes(t, v, "s", adds("a", 5), adds("", 0), adds("5", -3), adds("zero", 4), adds("zero", -4), adds(strings.Repeat("x", 200), 1), adds("\x00", 2))
	for key, want := range map[string]int{"a": 5, "": 0, "5": -3, "zero": 0, strings.Repeat("x", 200): 1, "\x00": 2} {
		if n, ok := v.Get(key); n != want || !ok {
			t.Errorf("Get(%q): %d, %v, not %d", key, n, ok, want)
		}
	}
	for _, key := range []string{"A", "aa", "05", " 5", "5 ", "-3", "x", strings.Repeat("x", 199), strings.Repeat("x", 201), "\x00\x00", "\xff", "view.keys", "k", "n"} {
		if n, ok := v.Get(key); n != 0 || ok {
			t.Errorf("Get(%q): %d, %v", key, n, ok)
		}
	}
	if n, ok := New(byKey(), nil).Get(""); n != 0 || ok {
		t.Errorf("Get of no rows: %d, %v", n, ok)
	}
}

// P17.3: asking changes nothing.
func TestAsking(t *testing.T) {
	w := some(t, 9)
	v := w.view(chapter(), 7)
	ops, was := w.d.Ops(), bytesOf(t, w.d)
	for range 3 {
		v.Cursor()
		v.Rows()
		v.Get("acc")
		v.Get("none")
		v.Take(api.Entry{Pos: 6, Stream: "acc", Event: given(1)})
		v.Tick(w.s, 0)
		v.Tick(w.s, -1)
		w.is(v, chapter())
	}
	if v.Cursor() != 7 || w.d.Ops() != ops || bytesOf(t, w.d) != was {
		t.Errorf("the cursor %d, %d operations", v.Cursor(), w.d.Ops()-ops)
	}
}
