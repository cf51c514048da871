package blockdev

import (
	"bytes"
	"math/rand"
	"slices"
	"testing"

	"cartulary/api"
)

// P2.4: what a pick leaves of a block, by how many writes of it are pending.
func TestPicks(t *testing.T) {
	for _, c := range []struct {
		writes string
		picks  map[int]byte
	}{
		{"b", map[int]byte{0: 'a', 1: 'b', 2: 'a', 3: 'b', -1: 'a', -2: 'b', -3: 'a', most: 'b', least: 'b', most - 1: 'a', least + 1: 'a'}},
		{"bc", map[int]byte{0: 'a', 1: 'b', 2: 'c', 3: 'a', 4: 'b', 5: 'c', -1: 'a', -2: 'b', -3: 'c', -4: 'a', -5: 'b', most: 'b', least: 'b', most - 1: 'a', least + 1: 'a', most - 2: 'c', least + 2: 'c'}},
		{"bcd", map[int]byte{0: 'a', 1: 'b', 2: 'c', 3: 'd', 4: 'a', 1003: 'd', -1: 'a', -4: 'd', -5: 'a', most: 'd', least: 'd', most - 3: 'a', least + 3: 'a'}},
		{"bbc", map[int]byte{1: 'b', 2: 'b', 3: 'c', 4: 'a'}},
		{"ba", map[int]byte{0: 'a', 1: 'b', 2: 'a', 3: 'a'}},
	} {
		d := made(t, 64)
		put(t, d, 3, 'a')
		flush(t, d)
		for _, b := range []byte(c.writes) {
			put(t, d, 3, b)
		}
		for pick, want := range c.picks {
			x := d.Copy()
			x.Crash([]int{pick})
			holds(t, x, 3, want)
			if len(x.Pending()) != 0 {
				t.Errorf("pending %v behind a crash", x.Pending())
			}
			x.Crash([]int{1})
			holds(t, x, 3, want) // what is left is durable
		}
	}
}

// P2.4: the picks go by the blocks' rising numbers; 0 picks where there are too few; those beyond pick nothing.
func TestPicksByBlocks(t *testing.T) {
	d := made(t, 64)
	for _, n := range []int{40, 0, 63, 7} {
		put(t, d, n, 'a')
		put(t, d, n, 'b')
	}
	for _, c := range []struct {
		picks []int
		want  string // of the blocks 0, 7, 40, 63, and 1
	}{
		{nil, "\x00\x00\x00\x00\x00"},
		{[]int{}, "\x00\x00\x00\x00\x00"},
		{[]int{1}, "a\x00\x00\x00\x00"},
		{[]int{0, 1, 2}, "\x00ab\x00\x00"},
		{[]int{2, 1, 0, 2}, "ba\x00b\x00"},
		{[]int{-3, 4, -2, 5}, "baab\x00"},
		{[]int{0, 0, 0, 1, 2, 2, 2}, "\x00\x00\x00a\x00"},
	} {
		x := d.Copy()
		x.Crash(c.picks)
		for i, n := range []int{0, 7, 40, 63, 1} {
			holds(t, x, n, c.want[i])
		}
	}
}

// P2.4: the device is up then, without a fuse and with nothing pending; Ops goes on.
func TestBehindACrash(t *testing.T) {
	for _, fuse := range []int{-1, 0, 1, 5} {
		d := made(t, 64)
		put(t, d, 3, 'a')
		d.Fuse(fuse)
		if fuse == 0 {
			d.Flush()
		}
		d.Crash([]int{1})
		if d.Down() || d.Ops() != 1 || len(d.Pending()) != 0 || d.Blocks() != 64 || left(d) != -1 {
			t.Errorf("fuse %d: down %v, %d operations, pending %v, %d left", fuse, d.Down(), d.Ops(), d.Pending(), left(d))
		}
		holds(t, d, 3, 'a')
		if e := d.Fuse(0); e != api.OK || d.Write(3, full('b')) != api.ErrDown {
			t.Errorf("fuse %d: no fuse behind a crash: %v", fuse, e)
		}
	}
}

// P2.6: what was flushed stays whatever a crash picks; a crash without pending writes changes no block.
func TestFlushedStays(t *testing.T) {
	for _, picks := range [][]int{nil, {0}, {1}, {2, 2, 2}, {-1, -2}, {least}, {most, most}} {
		d := made(t, 64)
		put(t, d, 3, 'a')
		put(t, d, 3, 'b')
		put(t, d, 4, 'c')
		flush(t, d)
		put(t, d, 4, 'd')
		d.Crash(picks)
		holds(t, d, 3, 'b')
		before := look(d)
		d.Crash(picks)
		if !same(before, look(d)) {
			t.Errorf("%v: a crash without pending writes has changed something", picks)
		}
	}
}

// The chapter's examples of crashes.
func TestCrashExamples(t *testing.T) {
	d := made(t, 64)
	put(t, d, 3, 'a')
	put(t, d, 3, 'b')
	if b, e := d.Read(3); !bytes.Equal(b, full('b')) || e != api.OK || !slices.Equal(d.Pending(), []int{3}) {
		t.Errorf("Read: %v, pending %v", e, d.Pending())
	}
	for pick, want := range []byte("\x00ab\x00") {
		x := d.Copy()
		x.Crash([]int{pick})
		holds(t, x, 3, want)
	}
	d = made(t, 64)
	put(t, d, 5, 'a')
	flush(t, d)
	put(t, d, 5, 'b')
	put(t, d, 4, 'c')
	d.Crash([]int{0, 1})
	holds(t, d, 4, 0)
	holds(t, d, 5, 'b')
}

// model is a device told by the chapter's words, with a list of all writes in their order.
type model struct {
	flushed []byte
	writes  []struct {
		n int
		c byte
	}
}

// of are a block's pending writes.
func (m *model) of(n int) []byte {
	var out []byte
	for _, w := range m.writes {
		if w.n == n {
			out = append(out, w.c)
		}
	}
	return out
}

// crash keeps what is picked, and takes no picks' arithmetic from the device.
func (m *model) crash(picks []int) {
	i := 0
	for n := range m.flushed {
		may := append([]byte{m.flushed[n]}, m.of(n)...)
		if len(may) == 1 {
			continue
		}
		c := 0
		if i < len(picks) {
			c = picks[i]
		}
		if c < 0 {
			c = ^c
		}
		m.flushed[n] = may[c%len(may)]
		i++
	}
	m.writes = nil
}

// P2.2, P2.4, P2.6: many operations and crashes, held against the model.
func TestAgainstAModel(t *testing.T) {
	for seed := range int64(20) {
		r := rand.New(rand.NewSource(seed))
		d, m := made(t, 64), &model{flushed: make([]byte, 64)}
		for range 400 {
			switch n := r.Intn(8); r.Intn(8) {
			case 0:
				flush(t, d)
				for k := range m.flushed {
					if w := m.of(k); len(w) > 0 {
						m.flushed[k] = w[len(w)-1]
					}
				}
				m.writes = nil
			case 1:
				picks := make([]int, r.Intn(10))
				for i := range picks {
					picks[i] = r.Intn(20) - 10
				}
				d.Crash(picks)
				m.crash(picks)
			default:
				c := byte(r.Intn(256))
				put(t, d, n, c)
				m.writes = append(m.writes, struct {
					n int
					c byte
				}{n, c})
			}
			for n := range 9 {
				want := append([]byte{m.flushed[n]}, m.of(n)...)
				if b, e := d.Read(n); !bytes.Equal(b, full(want[len(want)-1])) || e != api.OK {
					t.Fatalf("seed %d, block %d: %v", seed, n, e)
				}
			}
		}
	}
}
