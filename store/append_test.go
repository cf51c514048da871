package store

import (
	"fmt"
	"slices"
	"strings"
	"testing"

	"cartulary/api"
	"cartulary/codec"
)

// P11.2: names and keys of all lengths that streams' Try tells apart.
func TestNameLengths(t *testing.T) {
	for _, n := range []int{0, 1, 2, 59, 60, 61, 1000} {
		name := strings.Repeat("é", n)[:n]
		w := grown(t, 64)
		asStream, asKey := api.OK, api.OK
		if n > 60 {
			asStream, asKey = api.ErrStreamName, api.ErrStreamName
		} else if n == 0 {
			asStream = api.ErrStreamName
		}
		if _, e := w.append(name, -1, "", events(1, 1)); e != asStream {
			t.Errorf("a stream's name of %d bytes: %v", n, e)
		}
		if _, e := w.append("s", -1, name, events(1, 1)); e != asKey {
			t.Errorf("a key of %d bytes: %v", n, e)
		}
		w.is(name)
		w.reopen()
		w.is(name)
	}
}

// wrong are events that codec.Check refuses.
func wrong() []api.Event {
	return []api.Event{
		{}, {Type: text(1, 61)}, {Type: "t", Version: -1}, {Type: "t", Version: 1<<30 + 1}, event(1, 17),
		{Type: "t", Fields: []api.Field{{Name: "a"}, {Name: "a", Text: true}}},
		{Type: "t", Fields: []api.Field{{Name: ""}}}, {Type: "t", Fields: []api.Field{{Name: text(1, 61)}}},
		{Type: "t", Fields: []api.Field{{Name: "a", Text: true, S: text(1, 201)}}}, {Type: "t", Fields: []api.Field{{Name: "a", Text: true, N: 1}}}, {Type: "t", Fields: []api.Field{{Name: "a", S: "x"}}},
	}
}

// P11.2: events that may not be, so many and such ones, and those that may just be.
func TestEvents(t *testing.T) {
	w := grown(t, 128)
	for _, n := range []int{0, 1, 2, 15, 16, 17, 1000} {
		want := api.OK
		if n < 1 || n > 16 {
			want = api.ErrStreamEvents
		}
		if _, e := w.append("a", -1, "", events(n, n)); e != want {
			t.Errorf("%d events: %v", n, e)
		}
	}
	for _, bad := range wrong() {
		for _, l := range [][]api.Event{{bad}, {event(1, 1), bad}, {bad, event(1, 1)}} {
			if _, e := w.append("a", -1, "", l); e != api.ErrStreamEvents {
				t.Errorf("%v: %v", bad, e)
			}
		}
	}
	for _, x := range []api.Event{
		{Type: text(1, 60), Version: 1 << 30}, event(1, 16), {Type: "\x00", Fields: []api.Field{}},
		{Type: "t", Fields: []api.Field{{Name: text(2, 60), Text: true, S: text(3, 200)}, {Name: "\xff", N: least}, {Name: "n", N: most}, {Name: "e", Text: true}, {Name: "z"}}},
	} {
		if _, e := w.append("a", -1, "", []api.Event{x}); e != api.OK {
			t.Errorf("%v: %v", x, e)
		}
	}
	w.is()
	w.reopen()
	w.is()
}

// P11.2: what is expected.
func TestExpected(t *testing.T) {
	for _, n := range []int{0, 1, 16, 20} {
		begun := grown(t, 64)
		for begun.m.version("s") < n {
			begun.adds("s", "", min(16, n-begun.m.version("s")))
		}
		for _, expected := range []int{least, -3, -2, -1, 0, 1, n - 1, n, n + 1, 1 << 40, most} {
			w := begun.again()
			want := api.ErrStreamVersion
			if expected < -1 {
				want = api.ErrArg
			} else if expected == -1 || expected == n {
				want = api.OK
			}
			if _, e := w.append("s", expected, "new", events(1, 3)); e != want {
				t.Errorf("%d events, %d are expected: %v", n, expected, e)
			}
			w.is("new")
		}
	}
}

// P11.2: of several errors the first named one is answered; a key that was there is answered ahead of what is wrong with the rest; and what is refused changes nothing.
func TestSeveralErrors(t *testing.T) {
	w := grown(t, 64)
	w.leave(0) // so that nothing goes well for which a block is needed
	long := sized("a", "", 0, 2001)
	answers := map[api.Errno]int{}
	for _, stream := range []string{"", "a", "b", "new", text(1, 61)} {
		for _, key := range []string{"", "k", "kb", "new", text(1, 61)} {
			for _, l := range [][]api.Event{nil, events(1, 17), {event(1, 1), {}}, long, sized("a", "", 0, 1900)} {
				for _, n := range []int{least, -2, -1, 0, 6, 7, most} {
					a, e := w.append(stream, n, key, l)
					answers[e]++
					if again := stream == "a" && key == "k" || stream == "b" && key == "kb"; a.Again != again || e == api.OK && !again {
						t.Errorf("Append(%q, %d, %q, %d events): %v, %v", stream, n, key, len(l), a, e)
					}
				}
			}
		}
	}
	for _, e := range []api.Errno{api.OK, api.ErrStreamName, api.ErrStreamKey, api.ErrStreamEvents, api.ErrArg, api.ErrStreamVersion, api.ErrStoreLong, api.ErrStoreSpace} {
		if answers[e] == 0 {
			t.Errorf("never %d: %v", e, answers)
		}
	}
	w.is("new")
	w.reopen()
	w.is("new")
}

// P11.2: what is refused for its own sake, and what is there again, needs no operation of the device.
func TestNoOperation(t *testing.T) {
	w := grown(t, 64)
	ops := w.d.Ops()
	w.d.Fuse(0)
	w.append("", -1, "", events(1, 1))
	w.append("b", -1, "k", events(1, 1))
	w.append("a", -1, "k", events(1, 1))
	w.append("a", -1, "", nil)
	w.append("a", -2, "", events(1, 1))
	w.append("a", 1, "", events(1, 1))
	w.append("a", -1, "", sized("a", "", 6, 2001))
	w.save("", "")
	w.save("x", text(1, 8001))
	w.drop("x")
	w.s.Saved("x")
	if tellStreams(t, w.s, nil, nil); w.d.Ops() != ops || w.d.Down() {
		t.Errorf("%d operations, down: %v", w.d.Ops()-ops, w.d.Down())
	}
	w.d.Fuse(-1)
	w.is("x")
}

// P11.2: the longest batch that codec.PutBatch takes, and those that it answers with ErrCodecLong: of one event and of several, with names and keys of several lengths.
func TestLong(t *testing.T) {
	for _, c := range []struct {
		stream, key string
		before      []api.Event
	}{{"s", "", nil}, {"s", "key", nil}, {text(1, 60), text(2, 60), nil}, {"s", "", events(1, 15)}, {"s", "key", slices.Repeat([]api.Event{{Type: "t"}}, 15)}, {"a", "", nil}} {
		for _, n := range []int{1999, 2000, 2001, 2002} {
			w := grown(t, 64)
			l := sized(c.stream, c.key, w.m.version(c.stream), n, c.before...)
			want, codecE := api.OK, api.OK
			if n > 2000 {
				want, codecE = api.ErrStoreLong, api.ErrCodecLong
			}
			b, e := codec.PutBatch(nil, api.Batch{Stream: c.stream, Key: c.key, First: w.m.version(c.stream), Events: l})
			if e != codecE || n <= 2000 && len(b) != n {
				t.Fatalf("a batch of %d bytes, not %d, %v", len(b), n, e)
			}
			if _, e := w.append(c.stream, -1, c.key, l); e != want {
				t.Errorf("%d bytes: %v", n, e)
			}
			w.is("key")
			w.reopen()
			w.is("key")
		}
	}
	w := begin(t, 64) // far too long
	if _, e := w.append("s", -1, "", slices.Repeat([]api.Event{{Type: text(1, 60), Fields: sized("s", "", 0, 2000)[0].Fields}}, 16)); e != api.ErrStoreLong {
		t.Errorf("%v", e)
	}
	w.is()
}

// needs are Appends of so many bytes of batch behind others, and how many blocks they need.
func needs() []struct {
	before []int
	bytes  int
	blocks int
} {
	return []struct {
		before []int
		bytes  int
		blocks int
	}{
		{nil, 20, 1}, {nil, 505, 1}, {nil, 506, 2}, {nil, 2000, 4},
		{[]int{400}, 98, 0}, {[]int{400}, 99, 0}, {[]int{400}, 100, 1}, {[]int{400}, 611, 2},
		{[]int{2000, 2000, 2000, 2000}, 157, 0}, {[]int{2000, 2000, 2000, 2000}, 158, 1}, {[]int{2000, 2000, 2000, 2000}, 2000, 4},
	}
}

// sizedBatch appends a batch of just so many bytes.
func (w *world) sizedBatch(bytes int) api.Errno {
	w.t.Helper()
	_, e := w.append("s", -1, "", sized("s", "", w.m.version("s"), bytes))
	return e
}

// P11.2: just the room that an Append needs, and a block less: then nothing has changed, and where there is room again it goes well.
func TestJustTheRoom(t *testing.T) {
	for _, c := range needs() {
		for lack := 0; lack <= min(1, c.blocks); lack++ {
			w := begin(t, 64)
			for _, n := range c.before {
				w.sizedBatch(n)
			}
			w.leave(c.blocks - lack)
			w.reopen() // so that no more is free than there is for a store that is opened
			want := api.OK
			if lack > 0 {
				want = api.ErrStoreSpace
			}
			if e := w.sizedBatch(c.bytes); e != want {
				t.Fatalf("%v, %d bytes, %d blocks lacking: %v", c.before, c.bytes, lack, e)
			}
			if want == api.OK && w.m.free() != 0 {
				t.Errorf("%v, %d bytes: %d free", c.before, c.bytes, w.m.free())
			}
			w.is()
			w.reopen()
			w.is()
			if want == api.OK {
				continue
			}
			w.drop("fill0")
			if e := w.sizedBatch(c.bytes); e != api.OK {
				t.Errorf("%v, %d bytes: %v", c.before, c.bytes, e)
			}
			w.is()
			w.reopen()
			w.is()
		}
	}
}

// P11.2: Appends till there is no room, on devices of all sizes: the last one for which there is, and the first one for which there is none; a shorter one may go on.
func TestFill(t *testing.T) {
	for _, c := range []struct{ blocks, bytes int }{{64, 20}, {64, 497}, {64, 1000}, {64, 2000}, {65, 300}, {512, 1990}, {512, 2000}} {
		w := begin(t, c.blocks)
		for w.sizedBatch(c.bytes) == api.OK {
		}
		for range 2 {
			if e := w.sizedBatch(c.bytes); e != api.ErrStoreSpace {
				t.Errorf("%d blocks, %d bytes: %v", c.blocks, c.bytes, e)
			}
			w.is()
			w.reopen()
			w.is()
		}
		for n := c.bytes; n >= 20; n = n * 9 / 10 {
			for w.sizedBatch(n) == api.OK {
			}
		}
		w.is()
		w.reopen()
		w.is()
	}
}

// P11.2: a segment is a file: where there are 64 files an Append goes well within the last segment alone.
func TestFullOfFiles(t *testing.T) {
	w := begin(t, 512)
	for i := range 63 {
		w.saves(fmt.Sprint("n", i), "")
	}
	for range 4 { // in the first segment
		if e := w.sizedBatch(2000); e != api.OK {
			t.Fatalf("%v", e)
		}
	}
	for _, n := range []int{158, 2000} { // in a second one
		if e := w.sizedBatch(n); e != api.ErrStoreSpace {
			t.Errorf("%v", e)
		}
	}
	w.is()
	if e := w.sizedBatch(157); e != api.OK {
		t.Errorf("%v", e)
	}
	w.drop("n7")
	if e := w.sizedBatch(158); e != api.OK {
		t.Errorf("%v", e)
	}
	w.is()
	w.reopen()
	w.is()

	w = begin(t, 512) // nor is there a first segment
	for i := range 64 {
		w.saves(fmt.Sprint("n", i), "")
	}
	if e := w.sizedBatch(20); e != api.ErrStoreSpace {
		t.Errorf("%v", e)
	}
	w.is()
	w.drop("n0")
	if e := w.sizedBatch(20); e != api.OK {
		t.Errorf("%v", e)
	}
	w.is()
}

// P11.2, P11.7: an append that was refused for want of room leaves its key free: it is done when there is room.
func TestRefusedKey(t *testing.T) {
	w := grown(t, 64)
	w.leave(0)
	l := sized("a", "new", 6, 1900)
	for range 2 {
		if a, e := w.append("a", 6, "new", l); a != (api.Appended{}) || e != api.ErrStoreSpace {
			t.Errorf("%v, %v", a, e)
		}
		w.is("new")
		w.reopen()
	}
	w.drop("fill0")
	if a, e := w.append("a", 6, "new", l); a.Again || a.Count != 1 || e != api.OK {
		t.Errorf("%v, %v", a, e)
	}
	if a, e := w.append("a", 6, "new", l); !a.Again || a.Count != 1 || e != api.OK {
		t.Errorf("%v, %v", a, e)
	}
	w.is()
}

// P11.7: an append that is done again with its key adds nothing, and is answered as at first, whatever is handed in beside the key, also when much came behind it and behind crashes.
func TestAgain(t *testing.T) {
	w := grown(t, 64)
	first := map[string]api.Appended{}
	for _, key := range w.m.keys() {
		_, first[key], _ = w.s.Keyed(key)
	}
	for i := range 3 {
		was := w.s.Length()
		for key, want := range first {
			stream, _, _ := w.s.Keyed(key)
			want.Again = true
			for _, l := range [][]api.Event{nil, events(1, 1), events(9, 17), sized("x", "", 0, 2001), wrong()} {
				for _, expected := range []int{least, -1, 0, want.First, most} {
					if a, e := w.append(stream, expected, key, l); a != want || e != api.OK {
						t.Errorf("%q: %v, %v; not %v", key, a, e, want)
					}
				}
			}
			if a, e := w.append(stream+"x", -1, key, events(1, 1)); a != (api.Appended{}) || e != api.ErrStreamKey {
				t.Errorf("%q: %v, %v", key, a, e)
			}
		}
		if w.s.Length() != was {
			t.Errorf("%d events, not %d", w.s.Length(), was)
		}
		w.is()
		w.adds("a", fmt.Sprint("more", i), 3)
		w.saves("one", text(i, 700))
		w.reopen()
		w.is()
	}
}
