package streams

import (
	"math/rand"
	"slices"
	"testing"

	"cartulary/api"
)

// P10.3: from and most of all kinds, of all streams and of each.
func TestParts(t *testing.T) {
	for _, w := range []*world{begin(t), grown(t)} {
		names := append(w.m.names(), "not there", "", named(1, 60), named(1, 61))
		ends := []int{least, least + 1, -2, -1, 0, 1, 2, 1 << 40, most - 1, most}
		for _, n := range append(lengths(w, names), w.m.length()) {
			ends = append(ends, n-1, n, n+1)
		}
		for _, from := range ends {
			for _, many := range ends {
				w.all(from, many)
				for _, name := range names {
					w.stream(name, from, many)
				}
			}
		}
	}
}

// lengths are how many events streams have.
func lengths(w *world, names []string) []int {
	var l []int
	for _, name := range names {
		l = append(l, w.m.version(name))
	}
	return l
}

// P10.3: some parts, told by their numbers and places.
func TestSomeParts(t *testing.T) {
	w := begin(t)
	w.adds(batch("a", "", 0, 2))
	w.adds(batch("b", "", 0, 1))
	w.adds(batch("a", "", 2, 2))
	for _, c := range []struct {
		from, most int
		places     []int
	}{{0, most, []int{0, 1, 3, 4}}, {0, 0, nil}, {0, 1, []int{0}}, {1, 2, []int{1, 3}}, {3, 1, []int{4}}, {3, most, []int{4}}, {4, most, nil}, {most, most, nil}} {
		l, e := w.x.Stream("a", c.from, c.most)
		var places []int
		for i, x := range l {
			places = append(places, x.Pos)
			if x.Number != c.from+i || x.Stream != "a" {
				t.Errorf("Stream(%d, %d): %v", c.from, c.most, l)
			}
		}
		if e != api.OK || !slices.Equal(places, c.places) {
			t.Errorf("Stream(%d, %d): %v, %v", c.from, c.most, places, e)
		}
	}
	l, e := w.x.All(1, 3)
	if want := "ab1a"; e != api.OK || len(l) != 3 || l[0].Number != 1 || l[1].Number != 0 || l[2].Number != 2 || l[0].Stream+l[1].Stream+"1"+l[2].Stream != want {
		t.Errorf("%v, %v", l, e)
	}
	for _, c := range [][2]int{{-1, 0}, {0, -1}, {-1, -1}, {least, most}, {most, least}} {
		if l, e := w.x.All(c[0], c[1]); len(l) != 0 || e != api.ErrArg {
			t.Errorf("All(%v): %v, %v", c, l, e)
		}
		for _, name := range []string{"a", "not there", ""} {
			if l, e := w.x.Stream(name, c[0], c[1]); len(l) != 0 || e != api.ErrArg {
				t.Errorf("Stream(%q, %v): %v, %v", name, c, l, e)
			}
		}
	}
}

// P10.4: Names rise byte by byte, whatever the order of the Adds: bytes of 0, of 128 and above, names that begin with one another.
func TestNames(t *testing.T) {
	rising := []string{"\x00", "\x00\x00", "\x00a", " ", "A", "B", "Z", "a", "a\x00", "a\x00b", "a ", "aA", "aa", "aab", "ab", "a\x7f", "a\x80", "aé", "a\xff", "b", "z", "\x7f", "\x80", "é", "\xfe", "\xff", "\xff\x00", "\xff\xff"}
	r := rand.New(rand.NewSource(1))
	for range 50 {
		w := begin(t)
		for _, i := range r.Perm(len(rising)) {
			for range 1 + r.Intn(2) { // each is told once
				w.adds(batch(rising[i], "", w.m.version(rising[i]), 1))
			}
			w.x.Try("tried", -1, "", events(1, 1))
		}
		if l := w.x.Names(); !slices.Equal(l, rising) {
			t.Fatalf("%q", l)
		}
	}
}

// P10.4: names of all bytes, drawn.
func TestDrawnNames(t *testing.T) {
	r := rand.New(rand.NewSource(2))
	for range 30 {
		w := begin(t)
		for range 60 {
			b := make([]byte, 1+r.Intn(4))
			for i := range b {
				b[i] = []byte{0, 1, 127, 128, 129, 255, byte(r.Intn(256))}[r.Intn(7)]
			}
			w.adds(batch(string(b), "", w.m.version(string(b)), 1))
		}
		w.is()
	}
}

// P10.4: a key is no stream, and a stream no key; their names may be alike.
func TestKeysAndStreams(t *testing.T) {
	w := begin(t)
	w.adds(batch("a", "b", 0, 1))
	w.is("b")
	if _, _, ok := w.x.Keyed("a"); ok || w.x.Version("b") != 0 {
		t.Errorf("%v, %d", ok, w.x.Version("b"))
	}
	w.adds(batch("b", "a", 0, 2))
	w.is()
	if s, a, ok := w.x.Keyed("a"); s != "b" || a != (api.Appended{First: 0, Pos: 1, Count: 2}) || !ok {
		t.Errorf("%q, %v, %v", s, a, ok)
	}
}
