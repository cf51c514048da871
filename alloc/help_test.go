package alloc

import (
	"math/rand"
	"slices"
	"testing"

	"cartulary/api"
	"cartulary/codec"
)

const (
	most  = 1<<63 - 1
	least = -1 << 63
)

// sizes are the edges of how many blocks a map may have.
func sizes() []int { return []int{0, 1, 2, 7, 8, 9, 15, 16, 17, 127, 128, 129, 511, 512} }

func run(from, n int) api.Run { return api.Run{From: from, Len: n} }

func runs(l ...api.Run) []api.Run { return l }

// state is what a map is to be: of each block whether it is in use, and whether it was.
type state struct {
	used, was []bool
}

func states(blocks int) *state { return &state{make([]bool, blocks), make([]bool, blocks)} }

func (s *state) free(n int) bool { return !s.used[n] && !s.was[n] }

// open is the numbers of blocks that may be taken.
func (s *state) open() []int {
	var l []int
	for n := range s.used {
		if s.free(n) {
			l = append(l, n)
		}
	}
	return l
}

// gathered is numbers that rise as a whole list.
func gathered(numbers []int) []api.Run {
	var l []api.Run
	for _, n := range numbers {
		if k := len(l) - 1; k >= 0 && l[k].From+l[k].Len == n {
			l[k].Len++
		} else {
			l = append(l, run(n, 1))
		}
	}
	return l
}

func (s *state) take(n int) ([]api.Run, api.Errno) {
	l := s.open()
	switch {
	case n < 0:
		return nil, api.ErrArg
	case n > len(l):
		return nil, api.ErrAllocFull
	}
	for _, k := range l[:n] {
		s.used[k] = true
	}
	return gathered(l[:n]), api.OK
}

func (s *state) give(l []api.Run) api.Errno {
	named := map[int]bool{}
	for _, r := range l {
		if r.Len <= 0 || r.Len > len(s.used) || r.From < 0 || r.From > len(s.used) {
			return api.ErrAllocRun
		}
		for n := r.From; n < r.From+r.Len; n++ {
			if n >= len(s.used) || !s.used[n] || named[n] {
				return api.ErrAllocRun
			}
			named[n] = true
		}
	}
	for n := range named {
		s.used[n] = false
	}
	return api.OK
}

func (s *state) commit() { s.was = slices.Clone(s.used) }

func (s *state) reset() { s.used = slices.Clone(s.was) }

func (s *state) copy() *state { return &state{slices.Clone(s.used), slices.Clone(s.was)} }

// laid is what Bytes is to tell.
func (s *state) laid() []byte {
	b := codec.PutUint(nil, uint64(len(s.used)))
	for from := 0; from < len(s.used); from += 8 {
		value := 0
		for k := 7; k >= 0; k-- {
			value *= 2
			if from+k < len(s.used) && s.used[from+k] {
				value++
			}
		}
		b = append(b, byte(value))
	}
	return b
}

// told is all that a map tells.
func told(m *Map) (int, int, []api.Run, []byte) {
	return m.Blocks(), m.Free(), slices.Collect(m.All()), m.Bytes()
}

// is asks whether a map tells just that, and whether what it was at the last Commit is that, too.
func is(t *testing.T, m *Map, s *state) {
	t.Helper()
	tells(t, m, s)
	back, was := *m, s.copy()
	back.Reset()
	was.reset()
	tells(t, &back, was)
}

func tells(t *testing.T, m *Map, s *state) {
	t.Helper()
	blocks, free, all, b := told(m)
	if blocks != len(s.used) || free != len(s.open()) {
		t.Fatalf("%d of %d blocks are free, not %d of %d", free, blocks, len(s.open()), len(s.used))
	}
	if want := gathered(s.open()); !slices.Equal(all, want) || !whole(all) {
		t.Fatalf("All: %v, not %v", all, want)
	}
	if want := s.laid(); !slices.Equal(b, want) {
		t.Fatalf("Bytes: %x, not %x", b, want)
	}
}

// whole is the chapter's word.
func whole(l []api.Run) bool {
	for i, r := range l {
		if r.Len < 1 || i > 0 && l[i-1].From+l[i-1].Len >= r.From {
			return false
		}
	}
	return true
}

// takes asks whether Take answers just that.
func takes(t *testing.T, m *Map, n int, want ...api.Run) {
	t.Helper()
	if l, e := m.Take(n); !slices.Equal(l, want) || e != api.OK {
		t.Fatalf("Take(%d): %v, %v; not %v", n, l, e, want)
	}
}

// refuses asks whether Take answers that error, and nothing beside it.
func refuses(t *testing.T, m *Map, n int, want api.Errno) {
	t.Helper()
	if l, e := m.Take(n); len(l) != 0 || e != want {
		t.Errorf("Take(%d): %v, %v; not %v", n, l, e, want)
	}
}

// gives asks whether Give answers that.
func gives(t *testing.T, m *Map, want api.Errno, l ...api.Run) {
	t.Helper()
	if e := m.Give(l); e != want {
		t.Errorf("Give(%v): %v, not %v", l, e, want)
	}
}

// mixed is a map in which some blocks are in use and some were, with what it is to be.
func mixed(t *testing.T, r *rand.Rand, blocks int) (*Map, *state) {
	t.Helper()
	m, s := New(blocks), states(blocks)
	for range 1 + r.Intn(4) {
		step(t, m, s, 0, r.Intn(blocks+1), nil)
		step(t, m, s, 1, 0, drawn(r, s))
		if r.Intn(2) == 0 {
			step(t, m, s, 2, 0, nil)
		}
	}
	return m, s
}

// drawn is runs of blocks that are in use, in some order; they may touch.
func drawn(r *rand.Rand, s *state) []api.Run {
	var l []api.Run
	share := 1 + r.Intn(4)
	for n := 0; n < len(s.used); n++ {
		if !s.used[n] || r.Intn(share) > 0 {
			continue
		}
		k := 1
		for most := 1 + r.Intn(6); k < most && n+k < len(s.used) && s.used[n+k]; {
			k++
		}
		l = append(l, run(n, k))
		n += k - 1
	}
	r.Shuffle(len(l), func(i, j int) { l[i], l[j] = l[j], l[i] })
	return l
}

// step does a thing to a map and to what it is to be: 0 Take, 1 Give, 2 Commit, 3 Reset.
func step(t *testing.T, m *Map, s *state, act, n int, l []api.Run) {
	t.Helper()
	switch act {
	case 0:
		got, e := m.Take(n)
		if want, we := s.take(n); !slices.Equal(got, want) || !whole(got) || e != we {
			t.Fatalf("Take(%d): %v, %v; not %v, %v", n, got, e, want, we)
		}
	case 1:
		if e, want := m.Give(l), s.give(l); e != want {
			t.Fatalf("Give(%v): %v, not %v", l, e, want)
		}
	case 2:
		m.Commit()
		s.commit()
	case 3:
		m.Reset()
		s.reset()
	}
}
