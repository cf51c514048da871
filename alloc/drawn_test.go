package alloc

import (
	"math/rand"
	"testing"

	"cartulary/api"
)

// owner knows of each block by the promise's words alone whether it may be taken again: never taken, or given and committed, or given and taken behind the last Commit.
type owner struct {
	taken  []bool // and not given
	since  []bool // taken behind the last Commit
	locked []bool // given, but not committed, and not taken behind the last Commit
}

func owners(blocks int) *owner {
	return &owner{make([]bool, blocks), make([]bool, blocks), make([]bool, blocks)}
}

func (o *owner) take(t *testing.T, l []api.Run) {
	t.Helper()
	for _, r := range l {
		for n := r.From; n < r.From+r.Len; n++ {
			if o.taken[n] || o.locked[n] {
				t.Fatalf("the block %d is taken again", n)
			}
			o.taken[n], o.since[n] = true, true
		}
	}
}

func (o *owner) give(l []api.Run) {
	for _, r := range l {
		for n := r.From; n < r.From+r.Len; n++ {
			o.taken[n] = false
			o.locked[n] = !o.since[n]
		}
	}
}

func (o *owner) commit() {
	clear(o.since)
	clear(o.locked)
}

// reset: what was taken behind the last Commit is not any more, and what was given behind it is taken.
func (o *owner) reset() {
	for n := range o.taken {
		o.taken[n] = o.taken[n] && !o.since[n] || o.locked[n]
	}
	o.commit()
}

func (o *owner) count() int {
	k := 0
	for n := range o.taken {
		if o.taken[n] || o.locked[n] {
			k++
		}
	}
	return k
}

// P5.5, and all promises ahead of it: many runs of calls that are drawn, on maps of all sizes.
func TestDrawnCalls(t *testing.T) {
	r := rand.New(rand.NewSource(6))
	for i := range 400 {
		blocks := r.Intn(60)
		if i%8 == 0 {
			blocks = r.Intn(513)
		}
		m, s, o := New(blocks), states(blocks), owners(blocks)
		for range 60 {
			drawnCall(t, r, m, s, o)
			if m.Free()+o.count() != blocks {
				t.Fatalf("%d are free and %d are not, of %d", m.Free(), o.count(), blocks)
			}
		}
		is(t, m, s)
	}
}

func drawnCall(t *testing.T, r *rand.Rand, m *Map, s *state, o *owner) {
	t.Helper()
	switch k := r.Intn(12); {
	case k < 4:
		n := r.Intn(m.Free()+3) - 1
		l, e := m.Take(n)
		if want, we := s.take(n); e != we || len(l) != len(want) {
			t.Fatalf("Take(%d): %v, %v; not %v, %v", n, l, e, want, we)
		}
		o.take(t, l)
	case k < 8:
		l := drawn(r, s)
		step(t, m, s, 1, 0, l)
		o.give(l)
	case k < 9:
		wrongGive(t, r, m, s)
	case k < 11:
		step(t, m, s, 2, 0, nil)
		o.commit()
	default:
		step(t, m, s, 3, 0, nil)
		o.reset()
	}
	is(t, m, s)
}

// wrongGive gives a good list with one run more that makes it wrong.
func wrongGive(t *testing.T, r *rand.Rand, m *Map, s *state) {
	t.Helper()
	l := drawn(r, s)
	wrong := []api.Run{run(m.Blocks(), 1), run(-1, 2), run(0, 0), run(m.Blocks()-1, 2)}
	for n := range s.used {
		if !s.used[n] {
			wrong = append(wrong, run(n, 1))
		}
	}
	for _, x := range l {
		wrong = append(wrong, run(x.From+x.Len-1, 1))
	}
	l = append(l, wrong[r.Intn(len(wrong))])
	r.Shuffle(len(l), func(i, j int) { l[i], l[j] = l[j], l[i] })
	if s.copy().give(l) != api.ErrAllocRun {
		t.Fatalf("%v is not wrong", l)
	}
	step(t, m, s, 1, 0, l)
}
