package streams

import (
	"fmt"
	"testing"

	"cartulary/api"
)

// P10.2: First about how many events the stream has.
func TestFirst(t *testing.T) {
	for _, n := range []int{0, 1, 2, 16, 17, 40} {
		w := begin(t)
		w.adds(batch("other", "", 0, 7))
		for w.x.Version("s") < n {
			w.adds(batch("s", "", w.x.Version("s"), min(16, n-w.x.Version("s"))))
		}
		for _, first := range []int{least, -2, -1, 0, 1, n - 1, n + 1, n + 7, 1 << 40, most} {
			if first != n {
				w.refuses(batch("s", "k", first, 2), api.ErrStreamVersion)
			}
		}
		w.adds(batch("s", "k", n, 2))
		w.is()
		if s, a, ok := w.x.Keyed("k"); s != "s" || a != (api.Appended{First: n, Pos: n + 7, Count: 2}) || !ok {
			t.Errorf("Keyed: %q, %v, %v", s, a, ok)
		}
	}
}

// P10.2: keys that are empty, new, this stream's, another one's.
func TestAddKeys(t *testing.T) {
	w := grown(t)
	for _, key := range []string{"k", "k2", "kb", "kc", "a"} {
		for _, stream := range []string{"a", "b", "c", "ab", "new"} {
			w.refuses(batch(stream, key, w.m.version(stream), 1), api.ErrStreamKey)
		}
	}
	for _, stream := range []string{"a", "b", "new"} {
		for range 3 { // the empty key is no key
			w.adds(batch(stream, "", w.m.version(stream), 1))
		}
		key := "new" + stream
		w.adds(batch(stream, key, w.m.version(stream), 2))
		w.refuses(batch(stream, key, w.m.version(stream), 2), api.ErrStreamKey)
		w.is()
	}
	if s, a, ok := w.x.Keyed(""); s != "" || a != (api.Appended{}) || ok {
		t.Errorf("Keyed: %q, %v, %v", s, a, ok)
	}
}

// P10.2: an Add that is refused changes nothing: neither its key nor its stream is there, and the batch that is right is added as if nothing had been.
func TestRefusedAdd(t *testing.T) {
	for _, w := range []*world{begin(t), grown(t)} {
		for _, stream := range []string{"a", "new"} {
			n := w.m.version(stream)
			good := batch(stream, "fresh"+stream, n, 3)
			for e, spoil := range map[api.Errno]func(b *api.Batch){
				api.ErrStreamName:    func(b *api.Batch) { b.Key = named(1, 61) },
				api.ErrStreamEvents:  func(b *api.Batch) { b.Events = append(deep(b.Events), api.Event{}) },
				api.ErrStreamVersion: func(b *api.Batch) { b.First++ },
			} {
				b := good
				spoil(&b)
				w.refuses(b, e)
			}
			w.adds(good)
			w.is()
		}
	}
}

// P10.5, P10.4: what a key came to is told ever after, whatever is added.
func TestKeyEverAfter(t *testing.T) {
	w := begin(t)
	came := map[string]api.Appended{}
	for i := range 60 {
		stream, key := fmt.Sprint("s", i%4), fmt.Sprint("key", i)
		a, b, _ := w.try(stream, -1, key, events(i, 1+i%16))
		w.adds(b)
		came[key] = a
		w.adds(batch(stream, "", w.m.version(stream), 1))
		for k, want := range came {
			owner := fmt.Sprint("s", number(t, k)%4)
			if s, a, ok := w.x.Keyed(k); s != owner || a != want || a.Again || !ok {
				t.Fatalf("Keyed(%q): %q, %v, %v; not %v", k, s, a, ok, want)
			}
			want.Again = true
			if a, b, e := w.try(owner, i-3, k, events(i, i%18)); a != want || b.Stream != "" || b.Events != nil || e != api.OK {
				t.Fatalf("Try(%q): %v, %v, %v; not %v", k, a, b, e, want)
			}
			if _, _, e := w.try(stream+"x", -1, k, events(i, 1)); e != api.ErrStreamKey {
				t.Fatalf("Try(%q): %v", k, e)
			}
			if e := w.add(batch(owner, k, w.m.version(owner), 1)); e != api.ErrStreamKey {
				t.Fatalf("Add(%q): %v", k, e)
			}
		}
	}
	w.is()
}

// number is what stands behind "key".
func number(t *testing.T, key string) int {
	t.Helper()
	var n int
	if _, err := fmt.Sscanf(key, "key%d", &n); err != nil {
		t.Fatal(err)
	}
	return n
}
