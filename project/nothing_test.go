package project

import (
	"slices"
	"strings"
	"testing"

	"cartulary/api"
	"cartulary/store"
)

// wrongs are projections that may not be.
func wrongs() []api.Projection {
	return []api.Projection{{}, named("Sums"), right(17), named("a", onto("", self(), num(1))), named("a", onto("b", st("c"), num(1)))}
}

// R1: no view: a call with an Errno answers ErrArg, ahead of all else; the others zeros.
func TestNoView(t *testing.T) {
	w := some(t, 3)
	was := bytesOf(t, w.d)
	var v *View
	for _, s := range []*store.Store{nil, w.s, {}} {
		for _, n := range []int{-1, 0, 1, most, least} {
			if k, e := v.Tick(s, n); k != 0 || e != api.ErrArg {
				t.Errorf("Tick: %d, %v", k, e)
			}
			if v.Take(api.Entry{Pos: n}) {
				t.Error("Take: true")
			}
		}
		if e := v.Save(s); e != api.ErrArg {
			t.Errorf("Save: %v", e)
		}
	}
	if n := v.Cursor(); n != 0 {
		t.Errorf("Cursor: %d", n)
	}
	for _, key := range []string{"", "acc"} {
		if n, ok := v.Get(key); n != 0 || ok {
			t.Errorf("Get: %d, %v", n, ok)
		}
	}
	if l := v.Rows(); len(l) != 0 {
		t.Errorf("Rows: %v", l)
	}
	if bytesOf(t, w.d) != was {
		t.Error("something has changed")
	}
	w.down()
	if _, e := v.Tick(w.s, 1); e != api.ErrArg {
		t.Errorf("Tick: %v", e)
	}
	if e := v.Save(w.s); e != api.ErrArg {
		t.Errorf("Save: %v", e)
	}
}

// R1: no store: ErrArg, ahead of what is wrong with a projection or a number; the view stays.
func TestNoStore(t *testing.T) {
	for _, p := range append(wrongs(), chapter(), right(16)) {
		if v, e := Open(nil, p, nil); v != nil || e != api.ErrArg {
			t.Errorf("Open: %v, %v", v, e)
		}
	}
	w := some(t, 6)
	for _, v := range []*View{w.view(chapter(), 4), w.view(named(strings.Repeat("a", 30), chapter().Sums...), 4)} {
		rows := v.Rows()
		for _, n := range []int{-1, 0, 1, most, least} {
			if k, e := v.Tick(nil, n); k != 0 || e != api.ErrArg {
				t.Errorf("Tick: %d, %v", k, e)
			}
		}
		if e := v.Save(nil); e != api.ErrArg {
			t.Errorf("Save: %v", e)
		}
		told(t, v, 4, rows...)
	}
	long := begun(t, 256)
	longRows(long, 100, 200)
	if e := long.view(byKey(), 100).Save(nil); e != api.ErrArg {
		t.Errorf("Save of what is too long: %v", e)
	}
}

// R1: a store that was made by hand is without a device: nothing is opened or saved.
func TestStoreByHand(t *testing.T) {
	for range 2 {
		if v, e := Open(&store.Store{}, chapter(), nil); v != nil || e != api.ErrArg {
			t.Errorf("Open: %v, %v", v, e)
		}
	}
	for _, p := range wrongs() {
		if v, e := Open(&store.Store{}, p, nil); v != nil || e != Check(p) {
			t.Errorf("Open: %v, %v", v, e)
		}
	}
	w := some(t, 6)
	v := w.view(chapter(), 4)
	if e := v.Save(&store.Store{}); e != api.ErrArg {
		t.Errorf("Save: %v", e)
	}
	w.is(v, chapter())
}

// R1: a view that was made by hand is of a projection without sums and without a name.
func TestViewByHand(t *testing.T) {
	w := some(t, 6)
	for i, v := range []*View{{}, new(View), {&state{}}, New(api.Projection{}, nil)} {
		told(t, v, 0)
		if n, e := v.Tick(nil, 1); n != 0 || e != api.ErrArg {
			t.Errorf("%d: Tick: %d, %v", i, n, e)
		}
		if v.Take(api.Entry{Pos: 1}) || v.Take(api.Entry{Pos: -1}) {
			t.Errorf("%d: Take: true", i)
		}
		if e := v.Save(w.s); e != api.OK {
			t.Errorf("%d: Save: %v", i, e)
		}
		if n, e := v.Tick(w.s, 0); n != 0 || e != api.OK {
			t.Errorf("%d: Tick: %d, %v", i, n, e)
		}
		told(t, v, 0)
		takes(t, v, "acc", given(1))
		told(t, v, 1)
		if n, e := v.Tick(w.s, 2); n != 2 || e != api.OK {
			t.Errorf("%d: Tick: %d, %v", i, n, e)
		}
		told(t, v, 3)
		if e := v.Save(w.s); e != api.OK {
			t.Errorf("%d: Save: %v", i, e)
		}
	}
	w.opens(chapter(), 0)
}

// R1: a copy of the struct is the same view.
func TestCopies(t *testing.T) {
	w := some(t, 6)
	v := w.view(chapter(), 1)
	one := *v
	w.tick(v, chapter(), 2)
	two := one
	w.tick(&two, chapter(), 1)
	for _, x := range []*View{v, &one, &two} {
		if x.Cursor() != 4 {
			t.Errorf("Cursor: %d", x.Cursor())
		}
		w.is(x, chapter())
	}
	hand := *w.s
	if e := one.Save(&hand); e != api.OK {
		t.Errorf("Save: %v", e)
	}
	w.opens(chapter(), 4)
}

// R1: expressions that are parts of themselves, or have more parts than could be gone through: New takes them, of nothing comes something, and all ends.
func TestEndless(t *testing.T) {
	own := []api.Expr{{Kind: api.ELen}}
	own[0].Args = own
	pair := []api.Expr{{Kind: api.EAdd}, {Kind: api.EAdd}}
	pair[0].Args, pair[1].Args = pair, pair
	many := num(1)
	for range 60 {
		many = ex(api.EAdd, many, many)
	}
	deep := num(1)
	for range 1 << 15 {
		deep = ex(api.EShow, deep)
	}
	broad := ex(api.EAdd, slices.Repeat([]api.Expr{num(1)}, 100000)...)
	for i, e := range []api.Expr{own[0], pair[0], many, deep, broad, ex(api.EJoin, self(), own[0])} {
		for _, x := range []api.Sum{onto("e", e, num(1)), onto("e", txt("k"), e), onto("e", e, e)} {
			p := named("p", onto("e", txt("a"), num(1)), x, onto("e", txt("b"), num(2)))
			if c := Check(p); c != api.ErrProjectForm {
				t.Errorf("%d: Check: %v", i, c)
			}
			v := New(p, nil)
			takes(t, v, "s", event("e", 0), event("e", 0))
			told(t, v, 2, row("a", 2), row("b", 4))
		}
	}
}

// R1: events with great lists and texts, upcasters that go far.
func TestGreat(t *testing.T) {
	var l []api.Field
	for range 20000 {
		l = append(l, words(strings.Repeat("x", 50), strings.Repeat("y", 50)))
	}
	var far []api.Upcast
	for i := range 3000 {
		far = append(far, api.Upcast{Type: "e", From: i, Changes: []api.Change{{Kind: api.UScale, Name: "n", F: api.Field{N: -1}}}})
	}
	v := New(byKey(), far)
	takes(t, v, strings.Repeat("s", 1<<20), event("e", 2998, append(l, words("k", "a"), number("n", 5))...), adds("b", 6), event("e", most, words("k", "c"), number("n", 7)), event("e", least, words("k", strings.Repeat("z", 1<<20)), number("n", 7)))
	told(t, v, 4, row("a", 5), row("b", 6), row("c", 7))
}
