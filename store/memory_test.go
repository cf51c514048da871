package store

import (
	"math/rand"
	"slices"
	"testing"
	"unsafe"

	"cartulary/api"
)

// scrawlEvents writes over events and their fields, and over their spare room.
func scrawlEvents(l []api.Event) {
	l = l[:cap(l)]
	for i := range l {
		scrawlFields(l[i].Fields)
		l[i] = api.Event{Type: "!", Fields: []api.Field{{Name: "!"}}}
	}
}

func scrawlFields(l []api.Field) {
	l = l[:cap(l)]
	for i := range l {
		l[i] = api.Field{Name: "!", N: -1}
	}
}

// scrawl writes over bytes, and over their spare room.
func scrawl(b []byte) {
	b = b[:cap(b)]
	for i := range b {
		b[i] = '!'
	}
}

// roomy are so many events with spare room, their fields too, and all of that.
func roomy(seed, n int) (l, room []api.Event) {
	room = make([]api.Event, n+3)
	for i := range room {
		fields := event(seed+i, 3+i%5).Fields
		room[i] = api.Event{Type: "t", Version: i, Fields: fields[:len(fields)-2]}
	}
	return room[:n], room
}

// tellRoom is what is told of events, and of their spare room.
func tellRoom(l []api.Event) string {
	all := slices.Clone(l[:cap(l)])
	for i := range all {
		all[i].Fields = all[i].Fields[:cap(all[i].Fields)]
	}
	return tellEvents(all)
}

// R4: events that are handed in are neither changed nor kept, their fields and their spare room included, whatever is answered.
func TestEventsHandedIn(t *testing.T) {
	for _, n := range []int{0, 1, 2, 16, 17} {
		w := grown(t, 64)
		l, room := roomy(n, n)
		was := tellRoom(room)
		w.append("a", -1, "new", l)
		w.append("a", -1, "new", l)
		w.append("b", -1, "k", l)
		w.append("b", 77, "", l)
		if tellRoom(room) != was {
			t.Errorf("%d events are changed", n)
		}
		scrawlEvents(room)
		w.is("new")
		w.reopen()
		w.is("new")
	}
	w := begin(t, 64) // events of one memory
	x := event(1, 5)
	w.append("a", -1, "", []api.Event{x, x})
	w.append("b", -1, "", []api.Event{x})
	l, _ := w.s.All(0, most)
	scrawlFields(l[0].Event.Fields)
	if tellEvents([]api.Event{l[1].Event}) != tellEvents([]api.Event{x}) {
		t.Error("two events are one")
	}
	w.is()
}

// R4: entries that are answered are the asker's own: those of one answer, of two, and those that are kept.
func TestEntriesAnswered(t *testing.T) {
	w := grown(t, 64)
	for range 2 {
		for _, ask := range []func() []api.Entry{
			func() []api.Entry { l, _ := w.s.All(0, most); return l },
			func() []api.Entry { l, _ := w.s.All(3, 9); return l },
			func() []api.Entry { l, _ := w.s.Stream("c", 0, most); return l },
			func() []api.Entry { l, _ := w.s.Stream("a", 1, 3); return l },
		} {
			one, two := ask(), ask()
			want := tellEntries(two)
			for i := range one {
				rest := tellEntries(one[i+1:])
				scrawlFields(one[i].Event.Fields)
				if tellEntries(one[i+1:]) != rest {
					t.Errorf("the entry %d has memory of one behind it", i)
				}
			}
			room := one[:cap(one)]
			for i := range room {
				room[i] = api.Entry{Pos: -1, Stream: "!"}
			}
			if tellEntries(two) != want || tellEntries(ask()) != want {
				t.Error("two answers are one")
			}
			w.is()
			w.adds("c", "", 3)
			if tellEntries(two) != want {
				t.Error("what was answered changes when more is added")
			}
		}
		w.reopen()
	}
}

// R4: names that are answered are the asker's own.
func TestNamesAnswered(t *testing.T) {
	w := grown(t, 64)
	for _, ask := range []func() []string{w.s.Streams, w.s.Names} {
		one, two := ask(), ask()
		want := slices.Clone(two)
		room := one[:cap(one)]
		for i := range room {
			room[i] = "!"
		}
		w.is("!")
		w.adds("aa", "", 1)
		w.saves("aa", "")
		if !slices.Equal(two, want) {
			t.Errorf("%q, not %q", two, want)
		}
		w.drop("aa")
	}
}

// R4: data that is handed in is neither changed nor kept, and data that is answered is the asker's own, spare room too.
func TestData(t *testing.T) {
	w := grown(t, 64)
	for _, n := range []int{0, 1, 511, 512, 600, 5000, 8000} {
		for _, name := range []string{"one", "new"} {
			room := append([]byte(text(n, n)), "spare room"...)
			e, want := w.s.Save(name, room[:n]), w.m.save(name, text(n, n))
			if e != want {
				t.Errorf("Save of %d bytes: %v, not %v", n, e, want)
			}
			if string(room) != text(n, n)+"spare room" {
				t.Errorf("%d bytes are changed", n)
			}
			scrawl(room)
			for range 2 {
				one, _ := w.s.Saved(name)
				two, _ := w.s.Saved(name)
				scrawl(one)
				if string(two) != w.m.saved[name] {
					t.Errorf("%d bytes: two answers are one", n)
				}
				w.is()
				w.reopen()
			}
		}
		w.drop("new")
	}
	one, _ := w.s.Saved("one")
	want := string(one)
	w.saves("one", "another")
	if string(one) != want {
		t.Error("what was answered changes when another thing is saved")
	}
}

// loose is a text whose bytes can be changed, and these.
func loose(s string) (string, []byte) {
	b := []byte(s)
	return unsafe.String(&b[0], len(b)), b
}

// R4: names, keys and texts that are handed in are not kept: not even their bytes.
func TestTextsApart(t *testing.T) {
	w := begin(t, 64)
	stream, b1 := loose("stream")
	key, b2 := loose("key")
	kind, b3 := loose("type")
	field, b4 := loose("field")
	data, b5 := loose("text")
	l := func(kind, field, data string) []api.Event {
		return []api.Event{{Type: kind, Fields: []api.Field{{Name: field, Text: true, S: data}}}}
	}
	if _, e := w.s.Append(stream, 0, key, l(kind, field, data)); e != api.OK {
		t.Fatal(e)
	}
	w.m.append("stream", 0, "key", l("type", "field", "text"))
	name, b6 := loose("name")
	if e := w.s.Save(name, b6); e != api.OK {
		t.Fatal(e)
	}
	w.m.save("name", "name")
	for _, b := range [][]byte{b1, b2, b3, b4, b5, b6} {
		scrawl(b)
	}
	w.is("!!!!")
	gone, b := loose("name")
	if e := w.s.Drop(gone); e != api.OK {
		t.Fatal(e)
	}
	w.m.drop("name")
	scrawl(b)
	w.adds("stream", "", 1)
	w.is("name")
	w.reopen()
	w.is("name")
}

// R1: a copy that was made by hand is the same store.
func TestCopyByHand(t *testing.T) {
	r := rand.New(rand.NewSource(11))
	w := begin(t, 128)
	s := w.s
	hand := *s
	for range 120 {
		w.s = []*Store{s, &hand}[r.Intn(2)]
		drawnCall(r, w)
		w.is()
	}
	w.d.Fuse(0)
	if e := s.Save("x", nil); e != api.ErrDown {
		t.Errorf("Save: %v", e)
	}
	w.d.Crash(nil)
	w.s = &hand
	isDown(t, w)
	w.reopen()
	w.is()
}
