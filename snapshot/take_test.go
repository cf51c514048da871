package snapshot

import (
	"fmt"
	"slices"
	"strings"
	"testing"

	"cartulary/api"
	"cartulary/store"
)

// P15.2, P15.3: Takes and events by turns: what is kept is what was taken last, and what is told is the same without it.
func TestTakes(t *testing.T) {
	w := begin(t, 128, chapter())
	w.add("acc", opened(100))
	last := 0
	for i := range 30 {
		w.loads("acc", last)
		if i%3 != 1 {
			w.take("acc")
			last = w.count("acc")
			w.loads("acc", last)
		}
		if i%5 == 4 {
			w.reopen(i, 1, 0, i)
			w.loads("acc", last)
		}
		w.add("acc", taken(i), taken(1))
		if i%7 == 0 {
			w.take("none")
			w.add("box", opened(i))
		}
		w.is()
	}
	if l := names("acc"); !slices.Equal(w.snaps(), l[:]) {
		t.Errorf("%q, not %q", w.snaps(), l)
	}
}

// P15.2: a Take that is done again, without an event in between, keeps the same.
func TestTakesAgain(t *testing.T) {
	w := begin(t, 64, chapter())
	w.add("acc", opened(5), taken(2))
	for range 6 {
		w.take("acc")
		w.loads("acc", 2)
		w.reopen()
		w.loads("acc", 2)
	}
	w.add("acc", taken(1))
	w.loads("acc", 2)
	w.take("acc")
	w.loads("acc", 3)
	w.is()
}

// P15.2: it is kept under two names that begin with `snap.` and may be names; all streams' are unlike, but for those that fall together. Of a Take one of the two changes, and no other name.
func TestNames(t *testing.T) {
	seen := map[string]string{}
	streams := []string{"", "\x00", "\x00\x00", "\xff"}
	for i := range 2000 {
		streams = append(streams, fmt.Sprint("s", i))
	}
	for i := range 60 {
		streams = append(streams, strings.Repeat("x", i+1))
	}
	for _, stream := range streams {
		for _, name := range names(stream) {
			if !strings.HasPrefix(name, "snap.") || len(name) > 30 || len(name) < 6 {
				t.Errorf("%q: %q", stream, name)
			}
			if seen[name] != "" {
				t.Errorf("%q is of %q and %q", name, stream, seen[name])
			}
			seen[name] = stream + "!"
		}
	}

	w := begin(t, 128, chapter())
	w.save("snap", "x")
	w.save("view.snap.", "y")
	lie := map[string]string{}
	for i := range 24 {
		stream := fmt.Sprint("s", i%4)
		w.add(stream, opened(i))
		w.take(stream)
		changed := 0
		for _, name := range w.snaps() {
			if lie[name] == w.lies(name) {
				continue
			}
			lie[name] = w.lies(name)
			if l := names(stream); !slices.Contains(l[:], name) {
				t.Errorf("%q, which is not %q's", name, stream)
			}
			changed++
		}
		if changed != 1 {
			t.Errorf("%d have changed", changed)
		}
		w.is()
	}
	if len(w.snaps()) != 8 {
		t.Errorf("%q", w.snaps())
	}
}

// P15.2: the one that is taken now goes in the place of the elder one: the newest is there all the while.
func TestElderGoes(t *testing.T) {
	w := begin(t, 64, chapter())
	for i := range 12 {
		w.add("acc", opened(i))
		before := w.again()
		w.take("acc")
		for _, name := range names("acc") {
			if w.lies(name) == before.lies(name) {
				continue
			}
			// Without the one that came, all is as it was.
			w.s.Drop(name)
			w.loads("acc", before.load("acc"))
			w.loads("acc", i)
			w.take("acc")
			w.loads("acc", i+1)
		}
	}
}

// P15.2: of a stream without events nothing is kept, and no operation is done.
func TestTakeOfNone(t *testing.T) {
	w := begin(t, 64, chapter())
	w.add("acc", opened(5))
	w.save("x", "y")
	was, ops := w.s.Names(), w.d.Ops()
	for _, stream := range []string{"box", "", "ac", "accc", strings.Repeat("s", 60), strings.Repeat("s", 61), strings.Repeat("s", 100000)} {
		for range 2 {
			w.take(stream)
		}
	}
	if !slices.Equal(w.s.Names(), was) || w.d.Ops() != ops {
		t.Errorf("%q, not %q; %d operations", w.s.Names(), was, w.d.Ops()-ops)
	}
	for _, stream := range []string{"box", "", "acc"} {
		w.loads(stream, 0)
	}
	w.add("box", opened(1)) // it was not there when it was taken
	w.loads("box", 0)
	w.take("box")
	w.loads("box", 1)
	w.is()
}

// P15.2: states of all lengths up to the longest: each is kept as long as it can be saved; one that is too long need not be, Take answers OK, and what was kept ahead counts on.
func TestLong(t *testing.T) {
	kept, not := 0, 0
	for _, n := range []int{1, 15, 16} {
		for _, c := range []string{"x", "\xff", "&"} {
			for _, long := range []int{0, 1, 100, 150, 155, 160, 162, 163, 164, 165, 166, 167, 168, 170, 180, 199, 200} {
				w := begin(t, 64, full(n))
				w.add("s", event("begin", 0))
				w.take("s")
				w.loads("s", 1)
				w.add("s", event("fill", 0, words("s", strings.Repeat(c, long))))
				was := w.s.Names()
				w.take("s")
				from := w.load("s")
				switch {
				case from == 2:
					kept++
				case from == 1 && slices.Equal(w.s.Names(), was):
					not++
				default:
					t.Fatalf("from %d, %q", from, w.s.Names())
				}
				// A few more than the text's bytes are needed, none that can be saved is refused, and none beyond.
				if text := plainLong(w.state("s")); from == 2 && text > 8000 || from == 1 && text < 7980 {
					t.Errorf("a text of %d bytes: from %d", text, from)
				}
				w.reopen()
				w.loads("s", from)
				w.add("s", event("count", 0))
				w.loads("s", from)
				w.is()
			}
		}
	}
	if kept < 100 || not < 10 {
		t.Errorf("%d are kept, %d not", kept, not)
	}
}

// lay takes just what can be saved: up to the last byte.
func TestLayEdge(t *testing.T) {
	edge := map[int]bool{}
	for short := range 200 {
		var state []api.Field
		for i := range 13 {
			state = append(state, words(fmt.Sprintf("f%02d", i), strings.Repeat("\xff", 200)))
		}
		state = append(state, words("g", strings.Repeat("x", short)))
		b, ok := lay("stream", 300, state)
		if long := 4 + 7 + 2 + 2 + plainLong(state); ok != (long <= 8000) || ok == tooLong("stream", 300, state) || ok && len(b) != long {
			t.Errorf("%d bytes: %d, %v", long, len(b), ok)
		} else {
			edge[long] = ok
		}
	}
	if !edge[8000] || edge[8001] {
		t.Errorf("%v, %v", edge[8000], edge[8001])
	}
	if _, there := edge[8001]; !there {
		t.Error("the edge was not reached")
	}
}

// P15.2, P15.3: streams that share their names: each is told as it is, whatever of the others is kept; the one that was taken last is kept.
func TestAlikeStreams(t *testing.T) {
	w := begin(t, 128, chapter())
	streams := append(alike("stream"), "stream", "other")
	for i := range 60 {
		stream := streams[(i*i+i/7)%5]
		w.add(stream, opened(i*7), taken(i))
		w.is()
		w.take(stream)
		w.loads(stream, w.count(stream))
		w.is()
		if i%9 == 8 {
			w.reopen(1, 1)
			w.loads(stream, w.count(stream))
		}
	}
	if l := w.snaps(); len(l) > 4 {
		t.Errorf("%q", l)
	}
	// As many events, and the same ones: another stream's all the same.
	w = begin(t, 64, table(does("opened", as("me", self()))))
	for _, stream := range streams {
		w.add(stream, opened(1))
	}
	for _, stream := range streams {
		w.take(stream)
		w.loads(stream, 1)
		w.is()
	}
}

// P15.2: many streams, more than there are files for: ErrStoreSpace, and nothing has changed; the others go on.
func TestManyStreams(t *testing.T) {
	w := begin(t, 512, chapter())
	spaces := 0
	for i := range 140 {
		stream := fmt.Sprint("s", i%70)
		w.add(stream, opened(i))
		was := w.s.Names()
		switch e := Take(w.s, w.r, w.l, stream); e {
		case api.OK:
			w.noteTake(stream)
			w.loads(stream, w.count(stream))
		case api.ErrStoreSpace:
			spaces++
			if !slices.Equal(w.s.Names(), was) {
				t.Fatalf("%q, not %q", w.s.Names(), was)
			}
		default:
			t.Fatal(e)
		}
	}
	w.is()
	if spaces == 0 || spaces > 100 {
		t.Errorf("no room %d times", spaces)
	}
}

// filled is a world with a stream of one kept state, and no room but for so many blocks.
func filled(t *testing.T, blocks int) *world {
	t.Helper()
	w := begin(t, 64, chapter())
	w.add("acc", opened(5), taken(2))
	w.take("acc")
	w.add("acc", taken(1))
	for i := 0; ; i++ {
		if e := w.s.Save(fmt.Sprint("fill", i), make([]byte, 512)); e == api.ErrStoreSpace {
			for j := range blocks {
				w.s.Drop(fmt.Sprint("fill", j))
			}
			for j := blocks; j < i; j++ {
				w.saved[fmt.Sprint("fill", j)] = string(make([]byte, 512))
			}
			return w
		} else if e != api.OK {
			t.Fatal(e)
		}
	}
}

// P15.2: a store with no room for what is to be kept: Save's error ErrStoreSpace; nothing has changed, and all is told as it is.
func TestNoRoom(t *testing.T) {
	w := filled(t, 0)
	was := bytesOf(t, w.d)
	for range 3 {
		if e := Take(w.s, w.r, w.l, "acc"); e != api.ErrStoreSpace {
			t.Fatalf("Take: %v", e)
		}
		w.loads("acc", 2)
		w.is()
	}
	w.reopen()
	w.loads("acc", 2)
	w.is()
	if len(w.snaps()) != 1 || bytesOf(t, w.d) != was {
		t.Errorf("%q", w.snaps())
	}
	// Of what need not be kept no room is needed.
	w.take("none")
	// When there is room again it is kept.
	w.s.Drop("fill1")
	delete(w.saved, "fill1")
	w.take("acc")
	w.loads("acc", 3)
	w.add("acc", taken(1))
	if e := Take(w.s, w.r, w.l, "acc"); e != api.ErrStoreSpace { // there must be room beside the elder one
		t.Fatalf("Take: %v", e)
	}
	w.loads("acc", 3)
	w.is()

	w = filled(t, 1)
	w.take("acc")
	w.loads("acc", 3)
	w.is()
}

// P15.2: a stream whose first state finds no room.
func TestNoRoomAtFirst(t *testing.T) {
	w := filled(t, 0)
	for _, name := range w.snaps() {
		w.s.Drop(name)
		w.save("instead", "one block")
	}
	delete(w.taken, "acc")
	if e := Take(w.s, w.r, w.l, "acc"); e != api.ErrStoreSpace {
		t.Fatalf("Take: %v", e)
	}
	w.loads("acc", 0)
	w.is()
	if len(w.snaps()) != 0 {
		t.Errorf("%q", w.snaps())
	}
}

// P15.3: what is kept is dropped, one name or both: it is gone, and seen in Load's last number alone.
func TestDropped(t *testing.T) {
	w := begin(t, 64, chapter())
	w.add("acc", opened(9))
	w.take("acc")
	w.add("acc", taken(1))
	w.take("acc")
	for i := range 4 {
		x := w.again()
		for at, name := range names("acc") {
			if i>>at&1 == 1 {
				x.s.Drop(name)
			}
		}
		x.is()
		x.reopen()
		x.is()
		if from := x.load("acc"); (from == 0) != (i == 3) {
			t.Errorf("from %d, of %q", from, x.snaps())
		}
		x.take("acc")
		x.loads("acc", 2)
	}
}

// R1: a copy of a store that a hand made is the same store.
func TestCopyByHand(t *testing.T) {
	w := begin(t, 64, chapter())
	hand := *w.s
	for i, s := range []*store.Store{w.s, &hand, &hand, w.s, &hand} {
		w.s = s
		w.add("acc", opened(i))
		w.take("acc")
		w.loads("acc", i+1)
		w.is()
	}
}
