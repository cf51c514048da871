package streams

import (
	"slices"
	"testing"

	"cartulary/api"
)

// scrawl writes over fields, and over their spare room.
func scrawl(l []api.Field) {
	l = l[:cap(l)]
	for i := range l {
		l[i] = api.Field{Name: "!", N: -1}
	}
}

// scrawlEvents writes over events and all that they have, and over their spare room.
func scrawlEvents(l []api.Event) {
	l = l[:cap(l)]
	for i := range l {
		scrawl(l[i].Fields)
		l[i] = api.Event{Type: "!", Fields: []api.Field{{Name: "!"}}}
	}
}

// scrawlEntries writes over entries and all that they have, and over their spare room.
func scrawlEntries(l []api.Entry) {
	l = l[:cap(l)]
	for i := range l {
		scrawl(l[i].Event.Fields)
		l[i] = api.Entry{Pos: -1, Stream: "!", Event: api.Event{Type: "!"}}
	}
}

// roomy are so many events with spare room, their fields too, of which all is answered.
func roomy(seed, n int) (l, room []api.Event) {
	room = make([]api.Event, n+3)
	for i := range room {
		fields := event(seed+i, 3+i%5).Fields
		room[i] = api.Event{Type: "t", Version: i, Fields: fields[:len(fields)-2]}
	}
	return room[:n], room
}

// tellRoom is what is told of events, and of their spare room.
func tellRoom(l []api.Event) string {
	all := slices.Clone(l[:cap(l)])
	for i := range all {
		all[i].Fields = all[i].Fields[:cap(all[i].Fields)]
	}
	return tellEvents(all)
}

// R4: what Try is handed is not changed, its spare room included, and not kept: neither in the batch nor by the index.
func TestTryMemory(t *testing.T) {
	for _, n := range []int{0, 1, 2, 16, 17} {
		w := grown(t)
		l, room := roomy(n, n)
		was := tellRoom(room)
		_, b, e := w.try("a", -1, "new", l)
		w.try("a", -1, "k", l)
		w.try("b", -1, "k", l)
		w.try("b", 77, "", l)
		if tellRoom(room) != was {
			t.Errorf("%d events are changed", n)
		}
		want := tellBatch(b)
		scrawlEvents(room)
		if tellBatch(b) != want {
			t.Errorf("the batch of %d events is changed", n)
		}
		w.is()
		if e == api.OK {
			w.adds(b)
			w.is()
		}
	}
}

// R4: a batch that Try answers is the asker's own: what is done to it changes neither the index nor what was handed in, nor another batch.
func TestTryAnswerMemory(t *testing.T) {
	w := grown(t)
	l, room := roomy(5, 16)
	was := tellRoom(room)
	_, one, _ := w.try("a", -1, "", l)
	_, two, _ := w.try("a", -1, "", l)
	scrawlEvents(one.Events)
	if tellRoom(room) != was || tellEvents(two.Events) != tellEvents(l) {
		t.Error("it is shared")
	}
	w.adds(two)
	w.is()
}

// R4: what Add is handed is not changed, its spare room included, and not kept.
func TestAddMemory(t *testing.T) {
	w := grown(t)
	for n := range 18 {
		l, room := roomy(n, n)
		was := tellRoom(room)
		w.add(api.Batch{Stream: "a", First: w.m.version("a"), Events: l})
		w.add(api.Batch{Stream: "a", Events: l})
		w.add(api.Batch{Stream: "a", Key: "k", First: w.m.version("a"), Events: l})
		if tellRoom(room) != was {
			t.Errorf("%d events are changed", n)
		}
		scrawlEvents(room)
		w.is()
	}
	_, b, _ := w.try("b", -1, "new", events(4, 9))
	w.adds(b)
	scrawlEvents(b.Events)
	b.Stream, b.Key, b.First = "!", "!", 99
	w.is("!")
}

// R4: events of one memory, of one batch and of several, are apart from then on.
func TestSharedEvents(t *testing.T) {
	w := begin(t)
	e := event(1, 5)
	l := []api.Event{e, e, e}
	_, b, _ := w.try("a", -1, "", l)
	scrawl(b.Events[0].Fields)
	if want := tellEvents(l); tellEvents(b.Events[1:]) != want[len(want)/3:] {
		t.Error("events of a batch are one")
	}
	w.adds(api.Batch{Stream: "a", Events: l})
	w.adds(api.Batch{Stream: "b", Events: l})
	all, _ := w.x.All(0, most)
	want := tellEntries(all[1:])
	scrawl(all[0].Event.Fields)
	if tellEntries(all[1:]) != want {
		t.Error("events of an answer are one")
	}
	w.is()
}

// R4: entries that are answered are the asker's own, spare room too: those of one answer, of two, and those that are kept.
func TestEntriesMemory(t *testing.T) {
	for _, c := range []struct{ from, most int }{{0, 0}, {0, 1}, {0, 3}, {1, 4}, {0, most}, {4, most}} {
		w := grown(t)
		ask := map[string]func() []api.Entry{
			"All":    func() []api.Entry { l, _ := w.x.All(c.from, c.most); return l },
			"Stream": func() []api.Entry { l, _ := w.x.Stream("c", c.from, c.most); return l },
		}
		for name, tell := range ask {
			one, two, three := tell(), tell(), tell()
			want := tellEntries(two)
			for i := range one {
				rest := tellEntries(one[i+1:])
				scrawl(one[i].Event.Fields)
				if tellEntries(one[i+1:]) != rest {
					t.Errorf("%s: the entry %d has memory of one behind it", name, i)
				}
			}
			scrawlEntries(one)
			if tellEntries(two) != want || tellEntries(three) != want || tellEntries(tell()) != want {
				t.Errorf("%s: two answers are one", name)
			}
			w.is()
			_ = append(two, api.Entry{Pos: -1})
			scrawlEntries(two)
			w.is()
			w.adds(batch("c", "", w.m.version("c"), 16))
			if tellEntries(three) != want {
				t.Errorf("%s: what was answered changes when more is added", name)
			}
			w.is()
		}
	}
}

// R4: names that are answered are the asker's own, spare room too.
func TestNamesMemory(t *testing.T) {
	w := grown(t)
	one, two := w.x.Names(), w.x.Names()
	room := one[:cap(one)]
	for i := range room {
		room[i] = "!"
	}
	if !slices.Equal(two, w.m.names()) {
		t.Errorf("%q", two)
	}
	w.is("!")
	w.adds(batch("aa", "", 0, 1))
	if slices.Contains(two, "aa") {
		t.Errorf("%q", two)
	}
	w.is()
}
