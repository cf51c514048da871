package project

import (
	"fmt"
	"slices"
	"strings"
	"testing"

	"cartulary/api"
)

// P17.4: a view that is saved at each cursor is opened as it stood, and goes on from there; behind a crash, too.
func TestSaveAndOpen(t *testing.T) {
	for cursor := range 10 {
		w := some(t, 9)
		w.opens(chapter(), 0) // nothing is saved
		w.save(w.view(chapter(), cursor))
		for range 3 {
			w.opens(chapter(), cursor)
			w.goesOn(chapter())
			w.add("box", given(100))
			w.opens(chapter(), cursor)
			w.reopen(1, 0, 1)
			w.opens(chapter(), cursor)
		}
		w.isLog()
	}
}

// P17.4: it is saved under `view.` and the Name, and nothing else is; an Open saves nothing.
func TestSavedAs(t *testing.T) {
	w := some(t, 5)
	var want []string
	w.s.Save("view", []byte("x"))
	w.s.Save("snap.1", []byte("y"))
	for _, name := range []string{"a", "sums", "z_9", strings.Repeat("n", 20)} {
		p := named(name, chapter().Sums...)
		was := w.s.Names()
		w.goesOn(p)
		if !slices.Equal(w.s.Names(), was) {
			t.Errorf("%q, not %q", w.s.Names(), was)
		}
		w.save(w.view(p, 3))
		want = append(want, "view."+name)
		if l := w.s.Names(); !slices.Equal(slices.Sorted(slices.Values(append(slices.Clone(want), "view", "snap.1"))), l) {
			t.Errorf("%q", l)
		}
		w.opens(p, 3)
	}
	if w.lies("view") != "x" || w.lies("snap.1") != "y" {
		t.Error("what others saved has changed")
	}
}

// P17.4: events ahead of Saves, between them and behind them; a view that is saved twice and more.
func TestSavesAndEvents(t *testing.T) {
	w := begun(t, 128)
	v := New(chapter(), nil)
	saved := 0
	for i := range 60 {
		w.opens(chapter(), saved)
		w.add([]string{"acc", "box"}[i%2], given(i), opened(i), given(-3))
		w.opens(chapter(), saved)
		w.tick(v, chapter(), i%5)
		if i%3 == 0 {
			w.save(v)
			w.save(v)
			saved = v.Cursor()
		}
		w.opens(chapter(), saved)
		if i%7 == 6 {
			w.reopen(i, 1, 0, i)
		}
		if i%11 == 10 { // goes on with what Open gives
			v = w.open(chapter())
		}
	}
	if saved < 60 {
		t.Errorf("the cursor %d", saved)
	}
}

// P17.4: an elder view is saved over a newer one: it is the one that counts.
func TestElderOverNewer(t *testing.T) {
	w := some(t, 9)
	views := map[int]*View{}
	for cursor := range 10 {
		views[cursor] = w.view(chapter(), cursor)
	}
	for _, cursor := range []int{9, 3, 5, 0, 9, 0, 1, 8, 8, 2, 9} {
		w.save(views[cursor])
		w.opens(chapter(), cursor)
		w.reopen(1)
		w.opens(chapter(), cursor)
	}
	w.add("acc", given(1000))
	w.save(views[4])
	w.opens(chapter(), 4)
	w.goesOn(chapter())
}

// P17.4: projections of unlike names in one store: each has its own.
func TestTwoNames(t *testing.T) {
	w := some(t, 9)
	other := named("count", onto("taken", txt("all"), num(1)), onto("taken", self(), num(1)))
	long := named("sumss", onto("taken", gv("n"), gv("n")))
	for i := range 10 {
		w.save(w.view(chapter(), i))
		w.save(w.view(other, 9-i))
		w.opens(chapter(), i)
		w.opens(other, 9-i)
		w.opens(long, max(0, i-1))
		w.save(w.view(long, i))
		w.reopen()
		w.opens(chapter(), i)
		w.opens(other, 9-i)
		w.opens(long, i)
	}
	w.s.Drop("view.count")
	w.opens(other, 0)
	w.opens(chapter(), 9)
	w.opens(long, 9)
}

// P17.4, P17.5: what was saved is dropped: a view without any.
func TestDropped(t *testing.T) {
	w := some(t, 9)
	v := w.view(chapter(), 6)
	for range 3 {
		w.save(v)
		w.opens(chapter(), 6)
		if e := w.s.Drop("view.sums"); e != api.OK {
			t.Fatalf("Drop: %v", e)
		}
		w.opens(chapter(), 0)
		w.goesOn(chapter())
		w.reopen()
		w.opens(chapter(), 0)
	}
}

// P17.4: all rows come back: of all keys, of all numbers, as many as there may be.
func TestAllRowsSaved(t *testing.T) {
	numbers := []int{0, 1, -1, 63, 64, -64, -65, 127, 128, 8191, 8192, bound, -bound, bound - 1, 1 << 31, -1 << 32}
	w := begun(t, 256)
	p := byKey()
	for i, n := range numbers {
		w.add("s", adds([]string{"", "\x00", "\xff\xfe", "=&%'", strings.Repeat("k", 196), "a", "-5", "é"}[i%8]+fmt.Sprint(i), n), adds("", i))
		v := w.view(p, 2*i+2)
		w.save(v)
		w.opens(p, 2*i+2)
	}
	for i := range 200 {
		w.add("s", adds(fmt.Sprint("row", i), numbers[i%len(numbers)]))
	}
	v := w.view(p, len(w.log))
	if len(v.Rows()) != 200 {
		t.Fatalf("%d rows", len(v.Rows()))
	}
	w.save(v)
	w.opens(p, len(w.log))
	w.add("s", adds("one more", 5), adds("row0", 5))
	w.opens(p, len(w.log)-2)
	w.goesOn(p)
	w.reopen(1, 1)
	w.goesOn(p)
}

// longRows are events of rows with keys of so many bytes.
func longRows(w *world, rows, bytes int) {
	w.t.Helper()
	for i := range rows {
		w.add("s", adds(fmt.Sprintf("%03d", i)+strings.Repeat("\xff", bytes-3), i))
	}
}

// P17.4: what is too long to be saved: the answer is OK, the one that was saved ahead stays, or this one is saved; nothing else has changed. What is not too long is saved.
func TestTooLong(t *testing.T) {
	kept, not := 0, 0
	for _, c := range [][2]int{{200, 200}, {200, 100}, {200, 60}, {200, 41}, {200, 37}, {200, 36}, {200, 35}, {200, 30}, {200, 10}, {39, 200}, {38, 200}, {40, 200}, {41, 200}, {60, 200}, {100, 150}, {2, 200}} {
		w := begun(t, 512)
		w.add("s", adds("first", 1))
		first := w.view(byKey(), 1)
		w.save(first)
		longRows(w, c[0]-1, c[1])
		v := w.view(byKey(), len(w.log))
		w.save(v)
		opened := w.open(byKey()).Cursor()
		switch opened {
		case len(w.log):
			kept++
		case 1:
			not++
		default:
			t.Fatalf("%v: the cursor %d", c, opened)
		}
		// Each row needs its key's bytes, how many these are, its number; the bytes ahead are few.
		bytes := 0
		for _, r := range v.Rows() {
			bytes += len(r.Key)
		}
		if bytes > 8000 && opened != 1 || bytes < 8000-4*c[0]-20 && opened == 1 {
			t.Errorf("%v: the cursor %d, of keys of %d bytes", c, opened, bytes)
		}
		if l := w.s.Names(); !slices.Equal(l, []string{"view.keys"}) {
			t.Errorf("%q", l)
		}
		w.reopen()
		w.opens(byKey(), opened)
		w.goesOn(byKey())
		// The elder one can be saved again, and what comes of it.
		w.save(first)
		w.opens(byKey(), 1)
		w.isLog()
	}
	if kept < 4 || not < 4 {
		t.Errorf("%d are saved, %d not", kept, not)
	}
}

// P17.4: up to the last byte that can be saved it is saved, by this way to write it.
func TestLongEdge(t *testing.T) {
	edge := map[int]bool{}
	for last := range 200 {
		w := begun(t, 512)
		longRows(w, 39, 200)
		w.add("s", adds(strings.Repeat("x", last), 1))
		v := w.view(byKey(), len(w.log))
		long := len(lay(v.state.taken))
		w.save(v)
		saved := w.open(byKey()).Cursor() == len(w.log)
		if saved != (long <= 8000) || saved && len(w.lies("view.keys")) != long {
			t.Errorf("%d bytes: %v", long, saved)
		}
		edge[long] = saved
	}
	if over, there := edge[8001]; !edge[8000] || over || !there {
		t.Errorf("%v, %v, %v", edge[8000], over, there)
	}
}

// P17.4: Save's error ErrStreamName: of a view whose projection has a name that is too long to be saved under; of New any may be.
func TestSaveNames(t *testing.T) {
	w := some(t, 3)
	for _, c := range []struct {
		name string
		want api.Errno
	}{
		{"", api.OK}, {"A", api.OK}, {"\x00\xff", api.OK}, {strings.Repeat("a", 20), api.OK}, {strings.Repeat("a", 21), api.OK}, {strings.Repeat("a", 25), api.OK},
		{strings.Repeat("a", 26), api.ErrStreamName}, {strings.Repeat("a", 30), api.ErrStreamName}, {strings.Repeat("a", 1000), api.ErrStreamName},
	} {
		was := w.s.Names()
		v := w.view(named(c.name, chapter().Sums...), 2)
		for range 2 {
			if e := v.Save(w.s); e != c.want {
				t.Errorf("%q: Save: %v, not %v", c.name, e, c.want)
			}
		}
		if c.want == api.OK {
			was = append(was, "view."+c.name)
		}
		slices.Sort(was)
		if !slices.Equal(w.s.Names(), was) {
			t.Errorf("%q, not %q", w.s.Names(), was)
		}
		told(t, v, 2, row("acc", 0), row("box", 1))
	}
	w.isLog()
}

// filled leaves a store so many blocks of room; then it has none.
func (w *world) filled(blocks int) {
	w.t.Helper()
	for i := 0; ; i++ {
		if e := w.s.Save(fmt.Sprint("fill", i), make([]byte, 512)); e == api.ErrStoreSpace {
			for j := range blocks {
				w.s.Drop(fmt.Sprint("fill", i-1-j))
			}
			return
		} else if e != api.OK {
			w.t.Fatal(e)
		}
	}
}

// P17.4: a store without room: Save's error ErrStoreSpace; nothing has changed, of the view neither, and what was saved ahead counts on.
func TestNoRoom(t *testing.T) {
	for _, saved := range []bool{false, true} {
		w := begun(t, 64)
		longRows(w, 5, 200)
		cursor := 0
		if saved {
			cursor = 2
			w.save(w.view(byKey(), cursor))
		}
		w.filled(0)
		v := w.view(byKey(), 5)
		rows := v.Rows()
		was, names := bytesOf(t, w.d), w.s.Names()
		for range 3 {
			if e := v.Save(w.s); e != api.ErrStoreSpace {
				t.Fatalf("Save: %v", e)
			}
			told(t, v, 5, rows...)
			w.opens(byKey(), cursor)
		}
		if bytesOf(t, w.d) != was || !slices.Equal(w.s.Names(), names) {
			t.Errorf("%q, not %q", w.s.Names(), names)
		}
		w.reopen()
		w.opens(byKey(), cursor)
		// When there is room again it is saved: two blocks, beside what is there.
		for i := range 2 {
			if e := v.Save(w.s); e != api.ErrStoreSpace {
				t.Fatalf("with %d blocks: %v", i, e)
			}
			w.s.Drop(fmt.Sprint("fill", i))
		}
		w.save(v)
		w.opens(byKey(), 5)
		w.isLog()
	}
}

// P17.4: as many files as there may be: no room for one more view, but for those that are there.
func TestNoFiles(t *testing.T) {
	w := some(t, 6)
	w.save(w.view(chapter(), 3))
	for i := 0; ; i++ {
		e := w.s.Save(fmt.Sprint("f", i), nil)
		if e == api.ErrStoreSpace {
			break
		}
		if e != api.OK || i > 64 {
			t.Fatal(i, e)
		}
	}
	other := named("other", chapter().Sums...)
	if e := w.view(other, 2).Save(w.s); e != api.ErrStoreSpace {
		t.Errorf("Save: %v", e)
	}
	w.opens(other, 0)
	w.save(w.view(chapter(), 5))
	w.opens(chapter(), 5)
	w.s.Drop("f0")
	w.save(w.view(other, 2))
	w.opens(other, 2)
}

// P17.4: Open answers Check's error, whatever is saved, and changes nothing then.
func TestOpenOfWrong(t *testing.T) {
	w := some(t, 6)
	w.save(w.view(chapter(), 3))
	was := bytesOf(t, w.d)
	for _, c := range []struct {
		p    api.Projection
		want api.Errno
	}{
		{named("Sums", chapter().Sums...), api.ErrProjectName}, {named("sums", right(17).Sums...), api.ErrProjectMany}, {named("sums", onto("", self(), num(1))), api.ErrProjectName},
		{named("sums", onto("t", st("a"), num(1))), api.ErrProjectForm}, {named("sums", onto("t", self(), api.Expr{})), api.ErrProjectForm}, {api.Projection{}, api.ErrProjectName},
	} {
		if v, e := Open(w.s, c.p, nil); v != nil || e != c.want {
			t.Errorf("Open: %v, %v, not %v", v, e, c.want)
		}
	}
	if bytesOf(t, w.d) != was {
		t.Error("something has changed")
	}
	w.opens(chapter(), 3)
}

// P17.4: with upcasters: what was saved has been brought up, and what is taken then is, too.
func TestSavedBroughtUp(t *testing.T) {
	w := begun(t, 128, takenUp()...)
	p := named("p", onto("taken", gv("unit"), gv("count")), onto("taken", self(), num(1)))
	for i := range 10 {
		w.add([]string{"acc", "box"}[i%2], event("taken", 0, number("n", i)), event("taken", 1, number("count", i)), event("taken", 2, number("count", i), words("unit", "box")))
		w.save(w.view(p, 2*i))
		w.opens(p, 2*i)
		w.goesOn(p)
	}
}

// P17.4: a view goes on when it has been saved, and a view that was opened is a view as any other: it is apart from the one that was saved, and from what is saved.
func TestOpenedIsApart(t *testing.T) {
	w := some(t, 9)
	v := w.view(chapter(), 3)
	w.save(v)
	one, two := w.open(chapter()), w.open(chapter())
	w.tick(v, chapter(), 1)
	w.tick(one, chapter(), 3)
	w.is(two, chapter())
	if v.Cursor() != 4 || one.Cursor() != 6 || two.Cursor() != 3 {
		t.Errorf("%d, %d, %d", v.Cursor(), one.Cursor(), two.Cursor())
	}
	w.opens(chapter(), 3)
	w.save(one)
	w.opens(chapter(), 6)
	w.is(two, chapter())
	w.save(two)
	w.opens(chapter(), 3)
}

// P17.5: of two views of one log and one cursor the same is told, and the same is saved, whatever way each has come.
func TestSameBySameEvents(t *testing.T) {
	w := some(t, 20)
	straight := w.view(chapter(), 20)
	w.save(straight)
	want := w.lies("view.sums")
	v := New(chapter(), nil)
	for i := range 100 {
		w.tick(v, chapter(), i%3)
		if i%4 == 3 {
			w.save(v)
			w.reopen(i, 1)
			v = w.open(chapter())
		}
	}
	w.save(v)
	if v.Cursor() != 20 || w.lies("view.sums") != want || !slices.Equal(v.Rows(), straight.Rows()) {
		t.Errorf("%v, not %v", v.Rows(), straight.Rows())
	}
}
