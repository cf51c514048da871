package streams

import (
	"fmt"
	"math/rand"
	"testing"

	"cartulary/api"
)

// drawnEvents are some, now and then too many, or none, or with a wrong one.
func drawnEvents(r *rand.Rand) []api.Event {
	l := events(r.Intn(50), []int{1, 1, 1, 2, 3, 1 + r.Intn(16), 16}[r.Intn(7)])
	switch r.Intn(16) {
	case 0:
		return events(r.Intn(50), []int{0, 17, 17 + r.Intn(10)}[r.Intn(3)])
	case 1:
		l[r.Intn(len(l))] = wrong()[r.Intn(len(wrong()))]
	}
	return l
}

// drawnName is the name of a stream, mostly of a few; now and then one that may not be.
func drawnName(r *rand.Rand) string {
	if r.Intn(30) == 0 {
		return []string{"", named(1, 61), named(r.Intn(4), 60)}[r.Intn(3)]
	}
	return []string{"a", "b", "ab", "\xff", "k1", fmt.Sprint("s", r.Intn(9))}[r.Intn(6)]
}

// drawnKey is a key, often none, often one that was there.
func drawnKey(r *rand.Rand, m *model) string {
	keys := m.keys()
	switch k := r.Intn(20); {
	case k < 7:
		return ""
	case k < 13 && len(keys) > 0:
		return keys[r.Intn(len(keys))]
	case k < 14:
		return []string{named(1, 61), named(r.Intn(4), 60), "a"}[r.Intn(3)]
	}
	return fmt.Sprint("k", r.Intn(400))
}

// drawnCall tries, and mostly adds what came of it, or adds a batch that nobody tried; it answers what was answered last.
func drawnCall(r *rand.Rand, w *world) api.Errno {
	w.t.Helper()
	stream, key, l := drawnName(r), drawnKey(r, w.m), drawnEvents(r)
	n := w.m.version(stream)
	number := []int{-1, n, n, n, n - 1, n + 1, 0, -2, r.Intn(40)}[r.Intn(9)]
	if r.Intn(3) == 0 {
		return w.add(api.Batch{Stream: stream, Key: key, First: number, Events: l})
	}
	a, b, e := w.try(stream, number, key, l)
	if e == api.OK && !a.Again && r.Intn(4) > 0 {
		w.adds(b)
	}
	return e
}

// oneByOne asks what P10.5 says, of what an index tells alone: numbers and places go on one by one, and All tells what the streams tell.
func oneByOne(t *testing.T, x *Index) {
	t.Helper()
	all, e := x.All(0, most)
	if e != api.OK || len(all) != x.Len() {
		t.Fatalf("All: %d of %d events, %v", len(all), x.Len(), e)
	}
	next := map[string]int{}
	for i, entry := range all {
		if entry.Pos != i || entry.Number != next[entry.Stream] {
			t.Fatalf("at the place %d stands %v", i, entry)
		}
		next[entry.Stream]++
		l, e := x.Stream(entry.Stream, entry.Number, 1)
		if e != api.OK || tellEntries(l) != tellEntries(all[i:i+1]) {
			t.Fatalf("Stream(%q, %d, 1): %v, %v; not %v", entry.Stream, entry.Number, l, e, entry)
		}
	}
	names := x.Names()
	if len(names) != len(next) {
		t.Fatalf("Names: %q", names)
	}
	for _, name := range names {
		if x.Version(name) != next[name] || next[name] == 0 {
			t.Fatalf("Version(%q): %d, not %d", name, x.Version(name), next[name])
		}
	}
}

// P10.5, and all promises ahead of it: many runs of Try and Add, drawn; what a key came to is always answered.
func TestDrawn(t *testing.T) {
	for seed := range 150 {
		r := rand.New(rand.NewSource(int64(seed)))
		w := begin(t)
		answers := map[api.Errno]int{}
		came := map[string]api.Appended{}
		for range 120 {
			answers[drawnCall(r, w)]++
			for key, want := range came {
				if _, a, ok := w.x.Keyed(key); a != want || !ok {
					t.Fatalf("seed %d: Keyed(%q): %v, not %v", seed, key, a, want)
				}
			}
			if n := len(w.m.batches); n > 0 && w.m.batches[n-1].Key != "" {
				key := w.m.batches[n-1].Key
				_, came[key], _ = w.x.Keyed(key)
			}
			if r.Intn(10) == 0 {
				w.is()
				w.all(r.Intn(w.m.length()+2), r.Intn(20))
				name := drawnName(r)
				w.stream(name, r.Intn(w.m.version(name)+2), r.Intn(20))
			}
		}
		w.is()
		oneByOne(t, w.x)
		for _, e := range []api.Errno{api.OK, api.ErrStreamEvents, api.ErrStreamVersion} {
			if answers[e] == 0 {
				t.Errorf("seed %d: %v", seed, answers)
			}
		}
	}
}

// P10.5: how events are cut into batches is seen in nothing but what keys came to.
func TestCutsAreNotSeen(t *testing.T) {
	for seed := range 30 {
		r := rand.New(rand.NewSource(int64(seed)))
		whole, parts := New(), New()
		for range 40 {
			name := drawnName(r)
			if wrongNames(name, "") {
				continue
			}
			b := batch(name, "", whole.Version(name), 1+r.Intn(16))
			if e := whole.Add(b); e != api.OK {
				t.Fatal(e)
			}
			for rest := b.Events; len(rest) > 0; {
				n := min(len(rest), 1+r.Intn(5))
				if e := parts.Add(api.Batch{Stream: name, First: parts.Version(name), Events: rest[:n]}); e != api.OK {
					t.Fatal(e)
				}
				rest = rest[n:]
			}
		}
		a, _ := whole.All(0, most)
		b, _ := parts.All(0, most)
		if tellEntries(a) != tellEntries(b) {
			t.Errorf("seed %d: they are unlike", seed)
		}
		oneByOne(t, parts)
	}
}
