package streams

import (
	"slices"
	"testing"

	"cartulary/api"
)

// The chapter's examples.
func TestExamples(t *testing.T) {
	one := api.Event{Type: "opened", Version: 1}
	two := []api.Event{one, one}
	x := New()
	a, b, e := x.Try("a", -1, "k", two)
	if a != (api.Appended{First: 0, Pos: 0, Count: 2}) || e != api.OK {
		t.Errorf("Try: %v, %v", a, e)
	}
	if e := x.Add(b); e != api.OK {
		t.Errorf("Add: %v", e)
	}

	if a, _, e := x.Try("b", 1, "", two[:1]); a != (api.Appended{}) || e != api.ErrStreamVersion {
		t.Errorf("Try: %v, %v", a, e)
	}
	if a, _, e := x.Try("b", 0, "k", two[:1]); a != (api.Appended{}) || e != api.ErrStreamKey {
		t.Errorf("Try: %v, %v", a, e)
	}
	if a, b, e := x.Try("a", 7, "k", nil); a != (api.Appended{Count: 2, Again: true}) || tellBatch(b) != tellBatch(api.Batch{}) || e != api.OK {
		t.Errorf("Try: %v, %v, %v", a, b, e)
	}
	if a, _, e := x.Try("a", 2, "", two[:1]); a != (api.Appended{First: 2, Pos: 2, Count: 1}) || e != api.OK {
		t.Errorf("Try: %v, %v", a, e)
	}

	if l, e := x.Stream("a", 1, 9); e != api.OK || tellEntries(l) != "1: \"a\" 1: \"opened\" version 1\n" {
		t.Errorf("Stream: %v, %v", l, e)
	}
	if l, e := x.All(0, 1); e != api.OK || tellEntries(l) != "0: \"a\" 0: \"opened\" version 1\n" {
		t.Errorf("All: %v, %v", l, e)
	}
	if n := x.Version("a"); n != 2 {
		t.Errorf("Version: %d", n)
	}
	if s, a, ok := x.Keyed("k"); s != "a" || a != (api.Appended{Count: 2}) || !ok {
		t.Errorf("Keyed: %q, %v, %v", s, a, ok)
	}
}

// The errors' numbers.
func TestErrors(t *testing.T) {
	for e, want := range map[api.Errno]int{api.ErrArg: 1, api.ErrStreamName: 100, api.ErrStreamKey: 101, api.ErrStreamEvents: 102, api.ErrStreamVersion: 103} {
		if int(e) != want {
			t.Errorf("%d, not %d", e, want)
		}
	}
}

// R1: without streams nothing is kept, and nothing told; and that is said ahead of all else.
func TestNone(t *testing.T) {
	var x *Index
	for range 2 {
		for _, stream := range []string{"a", "", named(0, 61)} {
			for _, key := range []string{"", "k", named(0, 61)} {
				for _, l := range [][]api.Event{nil, events(1, 1), events(1, 17), {{}}} {
					for _, n := range []int{least, -2, -1, 0, 1, most} {
						if a, b, e := x.Try(stream, n, key, l); a != (api.Appended{}) || tellBatch(b) != tellBatch(api.Batch{}) || e != api.ErrArg {
							t.Fatalf("Try: %v, %v, %v", a, b, e)
						}
						if e := x.Add(api.Batch{Stream: stream, Key: key, First: n, Events: l}); e != api.ErrArg {
							t.Fatalf("Add: %v", e)
						}
					}
				}
			}
		}
		for _, n := range []int{least, -1, 0, 1, most} {
			if l, e := x.Stream("a", n, n); len(l) != 0 || e != api.ErrArg {
				t.Errorf("Stream: %v, %v", l, e)
			}
			if l, e := x.All(n, n); len(l) != 0 || e != api.ErrArg {
				t.Errorf("All: %v, %v", l, e)
			}
		}
		if x.Len() != 0 || x.Version("a") != 0 || x.Version("") != 0 || len(x.Names()) != 0 {
			t.Errorf("%d, %d, %q", x.Len(), x.Version("a"), x.Names())
		}
		for _, key := range []string{"", "k"} {
			if s, a, ok := x.Keyed(key); s != "" || a != (api.Appended{}) || ok {
				t.Errorf("Keyed: %q, %v, %v", s, a, ok)
			}
		}
	}
}

// P10.4: a new one is without streams; one that was made by hand is as a new one (R1), also behind an Add that is refused.
func TestEmpty(t *testing.T) {
	for _, x := range []*Index{New(), {}} {
		w := &world{t, x, &model{}}
		w.is("a", "k")
		w.refuses(batch("a", "k", 1, 1), api.ErrStreamVersion)
		w.refuses(batch("", "", 0, 1), api.ErrStreamName)
		w.try("a", 0, "k", events(1, 1))
		w.try("a", 1, "k", events(1, 1))
		w.is("a", "k")
		for _, n := range []int{least, -1, 0, 1, most} {
			w.stream("a", n, n)
			w.all(n, n)
		}
		w.adds(batch("a", "k", 0, 3))
		w.is()
		w.adds(batch("b", "", 0, 1))
		w.is()
	}
}

// R1: a copy that was made by hand is the same index, and none of both panics when the other goes on.
func TestCopyByHand(t *testing.T) {
	w := begin(t)
	x := w.x
	hand := *x
	for i := range 20 {
		w.x = []*Index{x, &hand}[i%2]
		w.adds(batch(named(i%3, 2), named(i, 5), w.m.version(named(i%3, 2)), 1+i%4))
		for _, w.x = range []*Index{x, &hand} {
			w.is()
		}
	}
}

// Two indexes have nothing to do with each other.
func TestIndexesApart(t *testing.T) {
	v, w := grown(t), begin(t)
	w.is("a", "k")
	w.adds(batch("a", "k", 0, 1))
	w.is()
	v.is()
	if slices.Equal(v.x.Names(), w.x.Names()) {
		t.Errorf("%q", w.x.Names())
	}
}
