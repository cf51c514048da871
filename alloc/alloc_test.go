package alloc

import (
	"math/rand"
	"slices"
	"testing"

	"cartulary/api"
)

// The chapter's examples.
func TestExamples(t *testing.T) {
	m := New(10)
	takes(t, m, 3, run(0, 3))
	takes(t, m, 2, run(3, 2))
	gives(t, m, api.OK, run(1, 2))
	takes(t, m, 2, run(1, 2))
	m.Commit()
	gives(t, m, api.OK, run(1, 2))
	if m.Free() != 5 {
		t.Errorf("Free: %d", m.Free())
	}
	takes(t, m, 1, run(5, 1))
	m.Commit()
	if m.Free() != 6 {
		t.Errorf("Free: %d", m.Free())
	}
	refuses(t, m, 7, api.ErrAllocFull)
	gives(t, m, api.ErrAllocRun, run(9, 1))
	gives(t, m, api.ErrAllocRun, run(0, 1), run(0, 1))
	if l := slices.Collect(m.All()); !slices.Equal(l, runs(run(1, 2), run(6, 4))) {
		t.Errorf("All: %v", l)
	}
	if b := m.Bytes(); string(b) != "\x0a\x39\x00" {
		t.Errorf("Bytes: %x", b)
	}
	x, e := Read([]byte("\x0a\x39\x00"))
	if e != api.OK {
		t.Fatalf("Read: %v", e)
	}
	is(t, x, &state{bitsOf(10, 0, 3, 4, 5), bitsOf(10, 0, 3, 4, 5)})
	if x, e := Read([]byte("\x0a\x39\x08")); x != nil || e != api.ErrAllocForm {
		t.Errorf("Read: %v, %v", x, e)
	}
}

func bitsOf(blocks int, set ...int) []bool {
	b := make([]bool, blocks)
	for _, n := range set {
		b[n] = true
	}
	return b
}

func TestErrorNumbers(t *testing.T) {
	for want, e := range map[int]api.Errno{0: api.OK, 1: api.ErrArg, 50: api.ErrAllocFull, 51: api.ErrAllocRun, 52: api.ErrAllocForm} {
		if int(e) != want {
			t.Errorf("%v is %d, not %d", e, int(e), want)
		}
	}
}

// P5.1
func TestNew(t *testing.T) {
	for _, blocks := range sizes() {
		m := New(blocks)
		if m == nil {
			t.Fatalf("New(%d): none", blocks)
		}
		is(t, m, states(blocks))
	}
	for _, blocks := range []int{least, least + 1, -512, -1, 513, 514, 1024, 1 << 32, 1<<32 + 8, most - 1, most} {
		if m := New(blocks); m != nil {
			t.Errorf("New(%d): %d blocks", blocks, m.Blocks())
		}
	}
}

// P5.2: none, all that are free, and one more.
func TestTakeEdges(t *testing.T) {
	for _, blocks := range sizes() {
		m, s := New(blocks), states(blocks)
		for _, n := range []int{least, least + 1, -513, -1} {
			refuses(t, m, n, api.ErrArg)
		}
		for _, n := range []int{blocks + 1, blocks + 2, 513, 1 << 32, most - 1, most} {
			refuses(t, m, n, api.ErrAllocFull)
		}
		is(t, m, s)
		step(t, m, s, 0, 0, nil)
		is(t, m, s)
		step(t, m, s, 0, blocks, nil)
		is(t, m, s)
		if m.Free() != 0 {
			t.Errorf("%d of %d blocks are free", m.Free(), blocks)
		}
		takes(t, m, 0)
		refuses(t, m, 1, api.ErrAllocFull)
		refuses(t, m, -1, api.ErrArg)
		is(t, m, s)
	}
}

// P5.2: the least numbers, as a whole list, from maps of all kinds, and no more than one too many.
func TestTakeLeast(t *testing.T) {
	r := rand.New(rand.NewSource(1))
	for range 200 {
		blocks := r.Intn(70)
		m, s := mixed(t, r, blocks)
		for n := range m.Free() + 1 {
			x, y := *m, s.copy()
			step(t, &x, y, 0, n, nil)
			is(t, &x, y)
		}
		for _, n := range []int{m.Free() + 1, m.Free() + 2, blocks + 1, most} {
			refuses(t, m, n, api.ErrAllocFull)
		}
		is(t, m, s)
	}
}

// P5.2: each second block, so that a list has as many runs as it may.
func TestTakeManyRuns(t *testing.T) {
	m, s := New(512), states(512)
	step(t, m, s, 0, 512, nil)
	var odd []api.Run
	for n := 1; n < 512; n += 2 {
		odd = append(odd, run(n, 1))
	}
	step(t, m, s, 1, 0, odd)
	is(t, m, s)
	takes(t, m, 256, odd...)
	if m.Free() != 0 {
		t.Errorf("%d are free", m.Free())
	}
}

// P5.2: runs that are refused, by what they are alone; all blocks but 5 and 9 are in use.
func TestGiveRefused(t *testing.T) {
	for _, blocks := range []int{16, 17, 511, 512} {
		m, s := New(blocks), states(blocks)
		step(t, m, s, 0, blocks, nil)
		step(t, m, s, 1, 0, runs(run(5, 1), run(9, 1)))
		for _, l := range [][]api.Run{
			{run(0, 0)}, {run(5, 0)}, {run(blocks, 0)}, {run(blocks-1, 0)}, {run(0, -1)}, {run(4, -1)}, {run(2, -2)}, {run(most, 0)}, {run(least, 0)},
			{run(5, 1)}, {run(9, 1)}, {run(4, 2)}, {run(5, 2)}, {run(4, 3)}, {run(0, blocks)}, {run(5, 5)},
			{run(-1, 1)}, {run(-1, 2)}, {run(-3, 5)}, {run(least, 1)}, {run(least, most)}, {run(-1, most)}, {run(-512, 513)},
			{run(blocks, 1)}, {run(blocks-1, 2)}, {run(10, blocks-9)}, {run(blocks+1, 1)}, {run(513, 1)}, {run(most, 1)},
			{run(most, most)}, {run(10, most)}, {run(1, most)}, {run(0, most)}, {run(10, most-9)}, {run(10, most-10)}, {run(most-1, 2)}, {run(1<<32, 1)}, {run(0, 1<<32)},
			{run(10, least)}, {run(least, least)}, {run(0, least)}, {run(most, least)}, {run(blocks-1, least)}, {run(10, least+1)}, {run(-10, most)},
		} {
			gives(t, m, api.ErrAllocRun, l...)
			gives(t, m, api.ErrAllocRun, append(runs(run(0, 1)), l...)...)
			gives(t, m, api.ErrAllocRun, append(slices.Clone(l), run(0, 1))...)
			gives(t, m, api.ErrAllocRun, append(runs(run(0, 2), run(blocks-1, 1)), l...)...)
		}
		is(t, m, s)
	}
}

// P5.2: a block that is named twice.
func TestGiveTwice(t *testing.T) {
	m, s := New(20), states(20)
	step(t, m, s, 0, 20, nil)
	for _, l := range [][]api.Run{
		{run(3, 1), run(3, 1)}, {run(0, 1), run(0, 1)}, {run(19, 1), run(19, 1)}, {run(0, 20), run(0, 20)},
		{run(3, 4), run(6, 4)}, {run(6, 4), run(3, 4)}, {run(3, 9), run(5, 2)}, {run(5, 2), run(3, 9)},
		{run(3, 1), run(7, 1), run(3, 1)}, {run(0, 20), run(19, 1)}, {run(19, 1), run(0, 20)}, {run(1, 2), run(3, 2), run(2, 1)},
	} {
		gives(t, m, api.ErrAllocRun, l...)
		is(t, m, s)
	}
	// What touches, or comes in another order, is not named twice.
	for _, l := range [][]api.Run{{run(3, 4), run(7, 3)}, {run(12, 1), run(11, 1), run(10, 1)}, {run(0, 3)}, {run(19, 1)}, nil, {}} {
		step(t, m, s, 1, 0, l)
		is(t, m, s)
	}
}

// P5.2: runs up to the last block, and a map that is given whole.
func TestGiveEdges(t *testing.T) {
	for _, blocks := range sizes() {
		m, s := New(blocks), states(blocks)
		gives(t, m, api.ErrAllocRun, run(0, 1))
		gives(t, m, api.ErrAllocRun, run(0, 0))
		gives(t, m, api.ErrAllocRun, run(0, blocks))
		step(t, m, s, 0, blocks, nil)
		gives(t, m, api.ErrAllocRun, run(0, blocks+1))
		gives(t, m, api.ErrAllocRun, run(blocks, 1))
		is(t, m, s)
		if blocks == 0 {
			continue
		}
		step(t, m, s, 1, 0, runs(run(blocks-1, 1)))
		is(t, m, s)
		takes(t, m, 1, run(blocks-1, 1))
		gives(t, m, api.OK, run(0, blocks))
		is(t, m, states(blocks))
	}
}

// P5.2: a block is given once, and a list of more runs than there are blocks is refused.
func TestGiveAgain(t *testing.T) {
	m := New(8)
	takes(t, m, 4, run(0, 4))
	gives(t, m, api.OK, run(2, 1))
	gives(t, m, api.ErrAllocRun, run(2, 1))
	m.Commit()
	gives(t, m, api.OK, run(1, 1))
	gives(t, m, api.ErrAllocRun, run(1, 1)) // it was in use at the last Commit, but is not now
	long := make([]api.Run, 1000)
	for i := range long {
		long[i] = run(3*(i%2), 1)
	}
	gives(t, m, api.ErrAllocRun, long...)
	gives(t, m, api.OK, long[:2]...)
}

// P5.3, P5.5: which blocks may be taken behind Give, ahead of Commit and behind it.
func TestCommit(t *testing.T) {
	m := New(6)
	takes(t, m, 2, run(0, 2))
	gives(t, m, api.OK, run(0, 2))
	takes(t, m, 1, run(0, 1)) // taken behind the last Commit: it may be taken at once
	m.Commit()
	gives(t, m, api.OK, run(0, 1))
	takes(t, m, 1, run(1, 1))
	if m.Free() != 4 {
		t.Errorf("Free: %d", m.Free())
	}
	gives(t, m, api.OK, run(1, 1))
	takes(t, m, 2, run(1, 2))
	m.Commit()
	takes(t, m, 2, run(0, 1), run(3, 1))
	m.Commit()
	m.Commit()
	if m.Free() != 2 {
		t.Errorf("Free: %d", m.Free())
	}
	gives(t, m, api.OK, run(0, 4))
	takes(t, m, 2, run(4, 2))
	refuses(t, m, 1, api.ErrAllocFull)
	m.Commit()
	takes(t, m, 4, run(0, 4))
}

// P5.3: Reset behind Take, behind Give and behind both.
func TestReset(t *testing.T) {
	for _, committed := range []bool{false, true} {
		base, s := New(12), states(12)
		if committed {
			step(t, base, s, 0, 6, nil)
			step(t, base, s, 1, 0, runs(run(2, 1)))
			step(t, base, s, 2, 0, nil)
		}
		for way := range 8 {
			m, then := *base, s.copy()
			if way&1 != 0 {
				step(t, &m, then, 0, 3, nil)
			}
			if way&2 != 0 {
				step(t, &m, then, 1, 0, runs(run(0, 2)))
			}
			if way&4 != 0 {
				step(t, &m, then, 0, 2, nil)
			}
			is(t, &m, then)
			m.Reset()
			is(t, &m, s)
			m.Reset()
			m.Commit()
			is(t, &m, s)
		}
	}
}

// P5.3: what was done ahead of a Commit is not undone.
func TestResetBehindCommit(t *testing.T) {
	m := New(9)
	takes(t, m, 9, run(0, 9))
	m.Commit()
	gives(t, m, api.OK, run(3, 3))
	m.Commit()
	m.Reset()
	takes(t, m, 3, run(3, 3))
	m.Reset()
	if m.Free() != 3 {
		t.Errorf("Free: %d", m.Free())
	}
	gives(t, m, api.ErrAllocRun, run(3, 1))
	gives(t, m, api.OK, run(0, 3))
	m.Reset()
	gives(t, m, api.OK, run(0, 3), run(6, 3))
	m.Commit()
	if m.Free() != 9 {
		t.Errorf("Free: %d", m.Free())
	}
}
