package streams

import (
	"fmt"
	"slices"
	"strings"
	"testing"

	"cartulary/api"
	"cartulary/codec"
)

// P10.1, P10.2: names and keys of all lengths that the document names, in bytes.
func TestNameLengths(t *testing.T) {
	for _, unit := range []string{"a", "\x00", "\xff", "é"} {
		for _, n := range []int{0, 1, 2, 59, 60, 61, 62, 120, 1000} {
			s := strings.Repeat(unit, n)[:n]
			for _, c := range []struct {
				stream, key string
				ok          bool
			}{{s, "", n >= 1 && n <= 60}, {"s", s, n <= 60}, {s, s, n >= 1 && n <= 60}} {
				w := begin(t)
				want := api.OK
				if !c.ok {
					want = api.ErrStreamName
				}
				_, b, e := w.try(c.stream, 0, c.key, events(1, 1))
				if e != want {
					t.Errorf("Try(%q, %q): %v", c.stream, c.key, e)
				}
				if !c.ok {
					b = batch(c.stream, c.key, 0, 1)
				}
				if e := w.add(b); e != want {
					t.Errorf("Add(%q, %q): %v", c.stream, c.key, e)
				}
				w.is(c.stream, c.key)
				if c.ok && w.x.Version(c.stream) != 1 {
					t.Errorf("Version(%q): %d", c.stream, w.x.Version(c.stream))
				}
			}
		}
	}
}

// P10.1, P10.2: so many events as the document names.
func TestEventCounts(t *testing.T) {
	for _, n := range []int{0, 1, 2, 15, 16, 17, 18, 1000} {
		w := grown(t)
		for _, stream := range []string{"a", "new"} {
			want := api.OK
			if n < 1 || n > 16 {
				want = api.ErrStreamEvents
			}
			a, b, e := w.try(stream, -1, "", events(7, n))
			if e != want || e == api.OK && (a.Count != n || len(b.Events) != n) {
				t.Errorf("Try of %d events: %v, %v", n, a, e)
			}
			if e := w.add(batch(stream, "", w.m.version(stream), n)); e != want {
				t.Errorf("Add of %d events: %v", n, e)
			}
			w.is(stream)
		}
	}
}

// wrong are events that codec.Check refuses, of all kinds.
func wrong() []api.Event {
	l := []api.Event{
		{}, {Type: named(1, 61)}, {Type: "t", Version: -1}, {Type: "t", Version: 1<<30 + 1}, event(1, 17),
		{Type: "t", Fields: []api.Field{{Name: "a"}, {Name: "b"}, {Name: "a", Text: true}}},
	}
	for _, f := range []api.Field{{}, {Name: named(1, 61)}, {Name: "a", Text: true, S: named(1, 201)}, {Name: "a", Text: true, N: 1}, {Name: "a", S: "x"}} {
		l = append(l, api.Event{Type: "t", Fields: []api.Field{f}}, api.Event{Type: "t", Fields: []api.Field{{Name: "z"}, f}})
	}
	return l
}

// P10.1, P10.2: an event that codec.Check refuses, wherever it stands.
func TestWrongEvents(t *testing.T) {
	w := grown(t)
	for _, bad := range wrong() {
		if codec.Check(bad) == api.OK {
			t.Fatalf("%v is not wrong", bad)
		}
		for _, n := range []int{1, 2, 3, 16} {
			for _, at := range []int{0, n / 2, n - 1} {
				l := events(3, n)
				l[at] = bad
				for _, stream := range []string{"a", "new"} {
					if _, _, e := w.try(stream, -1, "", l); e != api.ErrStreamEvents {
						t.Errorf("Try of %v, at %d of %d: %v", bad, at, n, e)
					}
					b := api.Batch{Stream: stream, First: w.m.version(stream), Events: l}
					if e := w.add(b); e != api.ErrStreamEvents {
						t.Errorf("Add of %v, at %d of %d: %v", bad, at, n, e)
					}
				}
			}
		}
	}
	w.is("new")
}

// P10.1, P10.2, P10.3: events that are just allowed are told as they were given.
func TestJustAllowedEvents(t *testing.T) {
	l := []api.Event{
		{Type: named(1, 60)}, {Type: "\x00", Version: 1 << 30}, event(1, 16), {Type: "t", Version: 1, Fields: []api.Field{}},
		{Type: "t", Fields: []api.Field{{Name: named(2, 60), Text: true, S: named(3, 200)}, {Name: "\xff", N: least}, {Name: "n", N: most}, {Name: "e", Text: true}, {Name: "z"}}},
	}
	w := begin(t)
	for _, e := range l {
		_, b, _ := w.try("s", -1, "", []api.Event{e})
		w.adds(b)
	}
	_, b, _ := w.try("s", len(l), "k", l)
	w.adds(b)
	w.is()
	got, _ := w.x.Stream("s", 0, 99)
	for i, x := range got {
		if want := l[i%len(l)]; tellEvents([]api.Event{x.Event}) != tellEvents([]api.Event{want}) {
			t.Errorf("%v, not %v", x.Event, want)
		}
	}
	if len(got) != 2*len(l) {
		t.Errorf("%d events", len(got))
	}
}

// P10.1: what is expected: any number below -1, -1, and numbers about how many events the stream has.
func TestExpected(t *testing.T) {
	for _, n := range []int{0, 1, 2, 16, 17, 40} {
		w := begin(t)
		w.adds(batch("other", "", 0, 7))
		for w.x.Version("s") < n {
			w.adds(batch("s", "", w.x.Version("s"), min(16, n-w.x.Version("s"))))
		}
		for _, expected := range []int{least, -1000, -3, -2, -1, 0, 1, n - 1, n, n + 1, n + 7, 1 << 40, most} {
			want := api.ErrStreamVersion
			if expected < -1 {
				want = api.ErrArg
			} else if expected == -1 || expected == n {
				want = api.OK
			}
			a, b, e := w.try("s", expected, "k", events(1, 3))
			if e != want {
				t.Errorf("%d events, %d are expected: %v, not %v", n, expected, e, want)
			}
			if e == api.OK && (a != api.Appended{First: n, Pos: n + 7, Count: 3} || b.First != n || b.Key != "k" || b.Stream != "s") {
				t.Errorf("%d events, %d are expected: %v, %v", n, expected, a, b)
			}
		}
	}
}

// P10.1: keys that are empty, new, this stream's, another one's.
func TestTryKeys(t *testing.T) {
	w := grown(t)
	for _, c := range []struct {
		stream, key string
		a           api.Appended
		e           api.Errno
	}{
		{"a", "", api.Appended{First: 6, Pos: 32, Count: 2}, api.OK},
		{"a", "new", api.Appended{First: 6, Pos: 32, Count: 2}, api.OK},
		{"a", "k", api.Appended{First: 0, Pos: 0, Count: 2, Again: true}, api.OK},
		{"a", "k2", api.Appended{First: 5, Pos: 27, Count: 1, Again: true}, api.OK},
		{"b", "kb", api.Appended{First: 1, Pos: 22, Count: 5, Again: true}, api.OK},
		{"c", "kc", api.Appended{First: 0, Pos: 6, Count: 16, Again: true}, api.OK},
		{"a", "kb", api.Appended{}, api.ErrStreamKey},
		{"b", "k", api.Appended{}, api.ErrStreamKey},
		{"c", "k2", api.Appended{}, api.ErrStreamKey},
		{"new", "k", api.Appended{}, api.ErrStreamKey},
		{"new", "", api.Appended{First: 0, Pos: 32, Count: 2}, api.OK},
		{"a", "K", api.Appended{First: 6, Pos: 32, Count: 2}, api.OK},
		{"a", "b", api.Appended{First: 6, Pos: 32, Count: 2}, api.OK},
	} {
		a, b, e := w.try(c.stream, -1, c.key, events(1, 2))
		if a != c.a || e != c.e {
			t.Errorf("Try(%q, %q): %v, %v; not %v, %v", c.stream, c.key, a, e, c.a, c.e)
		}
		if (len(b.Events) == 0) != (a.Again || e != api.OK) {
			t.Errorf("Try(%q, %q): %v", c.stream, c.key, b)
		}
	}
}

// P10.1: a key that was this stream's is told ahead of what is wrong with the events and with what is expected.
func TestAgainAheadOfWrong(t *testing.T) {
	w := grown(t)
	for _, l := range [][]api.Event{nil, {}, {{}}, events(1, 1), events(1, 16), events(1, 17)} {
		for _, expected := range []int{least, -2, -1, 0, 2, 5, 6, most} {
			if a, _, e := w.try("a", expected, "k2", l); a != (api.Appended{First: 5, Pos: 27, Count: 1, Again: true}) || e != api.OK {
				t.Errorf("%v, %v", a, e)
			}
			if a, _, e := w.try("b", expected, "k2", l); a != (api.Appended{}) || e != api.ErrStreamKey {
				t.Errorf("%v, %v", a, e)
			}
		}
	}
}

// P10.1, P10.2: of several errors the first named one is answered; and nothing is changed.
func TestSeveralErrors(t *testing.T) {
	w := grown(t)
	lists := [][]api.Event{nil, events(1, 1), events(1, 16), events(1, 17), {event(1, 1), {}}}
	numbers := []int{least, -3, -2, -1, 0, 1, 5, 6, 7, most}
	answers, adds := map[api.Errno]int{}, map[api.Errno]int{}
	for _, stream := range []string{"", "a", "b", "new", named(1, 60), named(1, 61)} {
		for _, key := range []string{"", "k", "kb", "k2", "new", named(1, 60), named(1, 61)} {
			for _, l := range lists {
				for _, n := range numbers {
					_, _, e := w.try(stream, n, key, l)
					answers[e]++
					b := api.Batch{Stream: stream, Key: key, First: n, Events: l}
					fresh := &world{t, rebuilt(w.m), &model{slices.Clone(w.m.batches)}}
					adds[fresh.add(b)]++
				}
			}
		}
	}
	for _, e := range []api.Errno{api.OK, api.ErrStreamName, api.ErrStreamKey, api.ErrStreamEvents, api.ErrStreamVersion} {
		if answers[e] == 0 || adds[e] == 0 {
			t.Errorf("never %d: %v, %v", e, answers, adds)
		}
	}
	if answers[api.ErrArg] == 0 || adds[api.ErrArg] != 0 {
		t.Errorf("%v, %v", answers, adds)
	}
	w.is()
}

// rebuilt is an index of a model's batches.
func rebuilt(m *model) *Index {
	x := New()
	for _, b := range m.batches {
		x.Add(b)
	}
	return x
}

// P10.1: Try adds nothing, whatever it answers.
func TestTryAddsNothing(t *testing.T) {
	for _, w := range []*world{begin(t), grown(t)} {
		for i, l := range [][]api.Event{events(1, 1), events(1, 16), nil, events(1, 17)} {
			for _, stream := range []string{"a", "b", "new", ""} {
				for _, key := range []string{"", "k", "tried", fmt.Sprint("tried", i)} {
					for _, expected := range []int{-2, -1, 0, 6} {
						w.try(stream, expected, key, l)
						w.try(stream, expected, key, l)
					}
				}
			}
		}
		w.is("new", "tried", "tried0", "tried1")
	}
}

// P10.1: of two tries of one length the first that is added makes the other's batch wrong, unless they are of two streams.
func TestTryTwice(t *testing.T) {
	w := grown(t)
	_, one, _ := w.try("a", 6, "x", events(1, 2))
	_, two, _ := w.try("a", 6, "y", events(2, 3))
	_, same, _ := w.try("b", 6, "x", events(2, 3))
	_, other, _ := w.try("b", 6, "z", events(3, 1))
	w.adds(one)
	w.refuses(two, api.ErrStreamVersion)
	w.refuses(same, api.ErrStreamKey)
	w.refuses(one, api.ErrStreamKey)
	w.adds(other)
	w.is()
	// What was added between is told in the place, not in the number.
	if _, a, ok := w.x.Keyed("z"); !ok || a.First != 6 || a.Pos != w.x.Len()-1 {
		t.Errorf("%v", a)
	}
}
