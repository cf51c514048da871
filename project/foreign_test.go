package project

import (
	"fmt"
	"math/rand"
	"slices"
	"strings"
	"testing"

	"cartulary/api"
	"cartulary/codec"
)

// saves saves a view that has taken what are not this store's events.
func (w *world) saves(v *View) {
	w.t.Helper()
	if e := v.Save(w.s); e != api.OK {
		w.t.Fatalf("Save: %v", e)
	}
}

// P17.4, P17.5: a view of another store's events that is saved in this one: the cursor of what Open gives is never more than this one has events, and the rows are never the other one's: not when there are so many events either.
func TestOfAnotherStore(t *testing.T) {
	for cursor := 1; cursor <= 6; cursor++ {
		other := begun(t, 64)
		other.add("else", given(1000), given(2000), given(3000), given(4000), given(5000), given(6000))
		w := begun(t, 64)
		w.saves(other.view(chapter(), cursor))
		for i := range 9 {
			w.opens(chapter(), 0)
			w.goesOn(chapter())
			w.reopen()
			w.opens(chapter(), 0)
			w.add("acc", given(i))
		}
		w.save(w.view(chapter(), 4))
		w.opens(chapter(), 4)
	}
}

// P17.4, P17.5: likewise of entries that were made by hand: more than the store has, as many, fewer; such as no store has, too.
func TestOfEntriesByHand(t *testing.T) {
	for _, e := range []api.Event{given(7), {}, event("", 0), event("taken", -1, number("n", 7)), event("taken", api.MaxVersion+1, number("n", 7)), event("taken", 0, number("n", 7), number("n", 8)), event("taken", 0, number("", 1), number("n", 7)), event("taken", 0, words("s", strings.Repeat("x", 2001)), number("n", 7))} {
		for _, stream := range []string{"acc", "", "box", strings.Repeat("s", 61)} {
			for _, n := range []int{1, 2, 3, 4, 5, 8} {
				w := begun(t, 64)
				v := New(chapter(), nil)
				for range n {
					takes(t, v, stream, e)
				}
				w.add("acc", given(1), given(2), given(3))
				w.saves(v)
				w.opens(chapter(), 0)
				w.goesOn(chapter())
				w.add("acc", given(4), given(5), given(6), given(7), given(8))
				w.opens(chapter(), 0)
				w.goesOn(chapter())
			}
		}
	}
}

// P17.4: what the other one has taken is told apart by each thing of each event of which something comes: what Open gives are this store's rows. Where the same comes of both, it is the view that was saved.
func TestToldApart(t *testing.T) {
	type log []api.Entry
	at := func(stream string, e api.Event) api.Entry { return api.Entry{Stream: stream, Event: e} }
	same := log{at("acc", given(1)), at("box", event("taken", 0, number("n", 2), words("s", "x"))), at("acc", event("opened", 3, number("m", 3)))}
	w := begun(t, 64)
	for _, x := range same {
		w.add(x.Stream, x.Event)
	}
	others := map[string]log{
		"exchanged": {same[1], same[0], same[2]}, "the last two exchanged": {same[0], same[2], same[1]}, "twice": {same[0], same[0], same[1]},
	}
	for i := range same {
		for name, x := range map[string]api.Entry{
			"stream": at("ac", same[i].Event), "stream, one byte": at("acd", same[i].Event),
			"type":    at(same[i].Stream, event("x", same[i].Event.Version, same[i].Event.Fields...)),
			"version": at(same[i].Stream, event(same[i].Event.Type, 1, same[i].Event.Fields...)),
			"a field": at(same[i].Stream, event(same[i].Event.Type, same[i].Event.Version, number("n", 99))),
			"a name":  at(same[i].Stream, event(same[i].Event.Type, same[i].Event.Version, number("o", i+1))),
			"a text":  at(same[i].Stream, event(same[i].Event.Type, same[i].Event.Version, words("n", "1"))),
			"more":    at(same[i].Stream, event(same[i].Event.Type, same[i].Event.Version, append(slices.Clone(same[i].Event.Fields), number("z", 0))...)),
			"none":    at(same[i].Stream, event(same[i].Event.Type, same[i].Event.Version)),
		} {
			l := slices.Clone(same)
			l[i] = x
			others[fmt.Sprint(name, " of ", i)] = l
		}
	}
	view := func(l log) *View {
		v := New(chapter(), nil)
		for _, x := range l {
			takes(t, v, x.Stream, x.Event)
		}
		return v
	}
	apart := 0
	for name, l := range others {
		v, want := view(l), 3
		if !slices.Equal(v.Rows(), plainRows(chapter(), nil, w.log)) {
			apart++
			want = 0
		}
		w.saves(v)
		if v := w.open(chapter()); v.Cursor() != want {
			t.Errorf("%s: the cursor %d, not %d", name, v.Cursor(), want)
		}
		w.goesOn(chapter())
	}
	if apart < 10 || apart > len(others)-10 {
		t.Errorf("%d of %d are told apart", apart, len(others))
	}
	for n := range 4 {
		w.saves(view(same[:n]))
		w.opens(chapter(), n)
	}
}

// P17.4: what the other one has come to is told apart by each thing of each row, and by how many there are: what Open gives is the view that was saved, or one without any.
func TestRowsToldApart(t *testing.T) {
	for _, l := range [][]api.Event{
		{adds("a", 1), adds("b", 2), adds("c", 3)}, {adds("a", 1), adds("b", 2), adds("c", 3), adds("c", 0)},
		{adds("a", 1), adds("b", 2), adds("b", 0)}, {adds("b", 2), adds("a", 1), given(9)}, {adds("b", 2), adds("c", 3), given(9)}, {adds("a", 1), adds("b", 2), adds("d", 3)}, {adds("a", 1), adds("b", 2), adds("c", 4)}, {adds("a", 1), adds("b", -2), adds("c", 3)}, {given(1), given(2), given(3)}, {adds("", 1), adds("b", 2), adds("c", 3)}, {adds("ab", 1), adds("b", 2), adds("c", 3)},
	} {
		for _, own := range [][]api.Event{{adds("a", 1), adds("b", 2), adds("c", 3)}, {adds("a", 1), adds("b", 2), given(3)}, {given(1), given(2), adds("a", 1)}} {
			w, other := begun(t, 64), begun(t, 64)
			w.add("s", own...)
			other.add("s", l...)
			v := other.view(byKey(), len(l))
			want := 0
			if len(l) == 3 && slices.Equal(v.Rows(), w.view(byKey(), 3).Rows()) {
				want = 3
			}
			w.saves(v)
			w.opens(byKey(), want)
			w.goesOn(byKey())
		}
	}
}

// P17.4, P17.5: logs that share checksums: two texts for which codec.Sum of all that the events are agrees; the same sum of bytes, the same bytes in another order, as many bytes.
func TestOfSharedSums(t *testing.T) {
	with := func(n int, x string) api.Event { return event("taken", 0, number("n", n), words("x", x)) }
	for _, c := range [][2]api.Event{
		{with(2, "bH2DCmbP"), with(3, "GtYLK2nX")}, {with(2, "3"), with(3, "2")}, {with(2, "a"), with(3, "`")}, {with(2, "ab"), with(-2, "ba")}, {with(0, ""), with(1, "")},
	} {
		for range 2 {
			c[0], c[1] = c[1], c[0]
			a, b := begun(t, 64), begun(t, 64)
			a.add("acc", c[0])
			b.add("acc", c[1])
			b.saves(a.view(chapter(), 1))
			b.opens(chapter(), 0)
			b.goesOn(chapter())
			b.save(b.view(chapter(), 1))
			b.opens(chapter(), 1)
			a.saves(b.view(chapter(), 1))
			a.opens(chapter(), 0)
			a.goesOn(chapter())
		}
	}
}

// P17.4: a store's copy that has come to more events: what was saved of those counts when this one has the same ones, and else never.
func TestOfAnotherLife(t *testing.T) {
	for _, same := range []bool{true, false} {
		w := some(t, 4)
		other := w.again()
		other.add("acc", given(4))
		other.add("box", given(5))
		w.saves(other.view(chapter(), 6))
		w.opens(chapter(), 0)
		w.add("acc", given(4))
		w.opens(chapter(), 0)
		if same {
			w.add("box", given(5))
		} else {
			w.add("box", given(6))
		}
		want := 0
		if same {
			want = 6
		}
		w.opens(chapter(), want)
		w.add("acc", given(7))
		w.opens(chapter(), want)
		w.goesOn(chapter())
		// What is of the events that both have counts.
		w.saves(other.view(chapter(), 4))
		w.opens(chapter(), 4)
	}
}

// survives asks all of what Open gives, whatever stands under the name: nothing panics.
func survives(w *world, data string) {
	w.t.Helper()
	if e := w.s.Save("view.sums", []byte(data)); e != api.OK {
		w.t.Fatalf("Save: %v", e)
	}
	v, e := Open(w.s, chapter(), nil)
	if v == nil || e != api.OK {
		w.t.Fatalf("Open of %q: %v, %v", data, v, e)
	}
	if n := v.Cursor(); n < 0 || n > len(w.log) {
		w.t.Fatalf("Open of %q: the cursor %d of %d", data, n, len(w.log))
	}
	v.Rows()
	v.Get("acc")
	if n, e := v.Tick(w.s, most); e != api.OK || v.Cursor() != len(w.log) {
		w.t.Fatalf("Tick: %d, %v, %d", n, e, v.Cursor())
	}
	v.Rows()
	if e := v.Save(w.s); e != api.OK {
		w.t.Fatalf("Save: %v", e)
	}
}

// R1: any bytes under a view's name, by a hand: beginnings and ends of what is saved, with bits turned, drawn ones.
func TestBytesByHand(t *testing.T) {
	w := some(t, 9)
	w.save(w.view(chapter(), 6))
	whole := w.lies("view.sums")
	for i := range len(whole) + 1 {
		survives(w, whole[:i])
		survives(w, whole[i:])
		survives(w, whole[:i]+"\x80"+whole[i:])
	}
	for i := range len(whole) * 8 {
		b := []byte(whole)
		b[i/8] ^= 1 << (i % 8)
		survives(w, string(b))
	}
	r := rand.New(rand.NewSource(3))
	for _, n := range []int{1, 4, 5, 6, 7, 8, 9, 20, 512, 8000} {
		survives(w, strings.Repeat("\x00", n))
		survives(w, strings.Repeat("\xff", n))
		survives(w, strings.Repeat("\x80", n))
		for range 20 {
			b := make([]byte, n)
			r.Read(b)
			survives(w, string(b))
		}
	}
	w.isLog()
}

// R1: what is laid as a view is, with numbers and rows that there never are, or that are not of these events.
func TestLaidByHand(t *testing.T) {
	w := some(t, 3)
	rows, _ := rowsOf(300)
	for _, cursor := range []int{0, 1, 2, 3, 4, 5, -1, most, least, 1 << 40} {
		head := codec.PutInt(nil, cursor)
		for _, l := range [][]api.Row{nil, rows, {row("a", most), row("a", least)}, {row("acc", most), row("box", least)}, {row(strings.Repeat("x", 200), 5)}} {
			survives(w, string(append(slices.Clone(head), parts(l, putRow)...)))
		}
		survives(w, string(codec.PutText(head, strings.Repeat("x", 201)))+"\x00")
		survives(w, string(head)+"\xff\xff\xff\xff\xff\xff\xff\xff\xff\x01")
		survives(w, string(head)+"\x01x")
	}
}

// Unlike views are laid as unlike bytes.
func TestLaid(t *testing.T) {
	of := map[string]string{}
	for _, cursor := range []int{0, 1, 127, 128, 1 << 20, most} {
		for _, l := range [][]api.Row{nil, {row("", 0)}, {row("", 1)}, {row("a", 0)}, {row("", 0), row("a", 0)}, {row("", 0), row("a", 1)}, {row("a", 0), row("b", 0)}, {row("", -1), row("\x00", bound), row(strings.Repeat("x", 200), -bound)}} {
			rows := map[string]int{}
			for _, r := range l {
				rows[r.Key] = r.N
			}
			view := fmt.Sprint(cursor, l)
			data := string(lay(taken{cursor, rows}))
			if other, there := of[data]; there {
				t.Errorf("%s is laid as %s is", view, other)
			}
			if got := cursorOf([]byte(data)); got != cursor {
				t.Errorf("%s: the cursor %d", view, got)
			}
			of[data] = view
		}
	}
}
