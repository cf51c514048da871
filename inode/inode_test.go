package inode

import (
	"math/rand"
	"slices"
	"testing"

	"cartulary/api"
)

// The chapter's examples.
func TestExamples(t *testing.T) {
	f := New()
	needs(t, f, 513, 2, api.OK)
	extends(t, f, api.OK, 513, run(7, 2))
	lies(t, f, 0, 7, 0)
	lies(t, f, 512, 8, 0)
	nowhere(t, f, 513, api.ErrInodeRange)
	needs(t, f, 511, 0, api.OK)
	needs(t, f, 512, 1, api.OK)
	extends(t, f, api.OK, 512, run(9, 1))
	is(t, f, &state{1025, []int{7, 8, 9}})
	if l := f.Runs(); !slices.Equal(l, runs(run(7, 3))) {
		t.Errorf("Runs: %v", l)
	}
	extends(t, f, api.ErrArg, 1, run(9, 1))
	cuts(t, f, 512, run(8, 2))
	is(t, f, &state{512, []int{7}})
	keeps(t, f, 513, api.ErrInodeRange)
	if b := f.Bytes(); string(b) != "\x80\x04\x01\x07\x01" {
		t.Errorf("Bytes: %x", b)
	}
	g, n, e := Read([]byte("\x80\x04\x01\x07\x01\xff"))
	if n != 5 || e != api.OK {
		t.Fatalf("Read: %d, %v", n, e)
	}
	is(t, g, &state{512, []int{7}})
	noNode(t, "\x81\x04\x01\x07\x01")
}

func TestErrorNumbers(t *testing.T) {
	for want, e := range map[int]api.Errno{0: api.OK, 1: api.ErrArg, 60: api.ErrInodeRange, 61: api.ErrInodeForm} {
		if int(e) != want {
			t.Errorf("%v is %d, not %d", e, int(e), want)
		}
	}
}

// P6.1
func TestNew(t *testing.T) {
	f := New()
	if f == nil {
		t.Fatal("none")
	}
	is(t, f, &state{})
	extends(t, f, api.OK, 1, run(3, 1))
	is(t, f, &state{1, []int{3}})
	is(t, New(), &state{})
}

// P6.1: lengths at all edges of a block.
func TestSizes(t *testing.T) {
	for _, size := range sizes() {
		f, s := New(), &state{}
		if size > 0 {
			extend(t, f, s, size, runs(run(11, counted(size))))
		} else {
			extend(t, f, s, 0, nil)
		}
		is(t, f, s)
		if f.Size() != size || f.Blocks() != counted(size) {
			t.Errorf("%d bytes: %d in %d blocks", size, f.Size(), f.Blocks())
		}
	}
}

// P6.2: Need at its edges, from files of all lengths.
func TestNeed(t *testing.T) {
	r := rand.New(rand.NewSource(1))
	for _, size := range sizes() {
		f, s := made(t, r, size)
		for _, n := range []int{least, least + 1, -32768, -513, -512, -1} {
			needs(t, f, n, 0, api.ErrArg)
		}
		for _, n := range []int{32768 - size + 1, 32768 - size + 2, 32769, 65536, 1 << 32, most - 32768, most - 1, most} {
			needs(t, f, n, 0, api.ErrInodeRange)
		}
		for _, n := range slices.Concat(sizes(), []int{32768 - size, 32768 - size - 1, size - 1, size, size + 1}) {
			want, e := s.need(n)
			needs(t, f, n, want, e)
		}
		is(t, f, s)
	}
}

// P6.2: Need, for each length of two blocks and each number of bytes more.
func TestNeedAll(t *testing.T) {
	for size := range 1026 {
		f := New()
		blocks := counted(size)
		if blocks > 0 {
			extends(t, f, api.OK, size, run(0, blocks))
		}
		for n := range 1026 {
			if k, e := f.Need(n); k != counted(size+n)-blocks || e != api.OK {
				t.Fatalf("Need(%d) of %d: %d, %v", n, size, k, e)
			}
		}
	}
}

// P6.2: Need's errors, ahead of those of the runs.
func TestExtendNeeds(t *testing.T) {
	r := rand.New(rand.NewSource(2))
	for _, size := range sizes() {
		f, s := made(t, r, size)
		for _, l := range [][]api.Run{nil, {}, {run(0, 1)}, {run(0, 0)}, {run(-1, 1)}, {run(600, 1)}, {run(0, 64)}, {run(most, most)}} {
			for _, n := range []int{least, -513, -1} {
				extends(t, f, api.ErrArg, n, l...)
			}
			for _, n := range []int{32769 - size, 32770 - size, 33280 - size, 1 << 32, most - 1, most} {
				extends(t, f, api.ErrInodeRange, n, l...)
			}
		}
		is(t, f, s)
	}
}

// P6.2: runs that are refused, by what they are alone; the file needs so many blocks as they have, or seem to have.
func TestExtendRefused(t *testing.T) {
	for _, bad := range []api.Run{
		run(0, 0), run(5, 0), run(511, 0), run(512, 0), run(-1, 0), run(most, 0), run(least, 0),
		run(0, -1), run(5, -1), run(511, -2), run(0, least), run(511, least), run(-1, -1), run(least, least), run(most, least),
		run(-1, 1), run(-1, 2), run(-3, 4), run(-64, 64), run(least, 1), run(least, 2), run(least, most), run(-1, most), run(least+1, most),
		run(512, 1), run(511, 2), run(509, 4), run(510, 3), run(448, 65), run(449, 64), run(513, 1), run(600, 1), run(most, 1), run(most, 2), run(most-1, 2),
		run(0, most), run(1, most), run(511, most), run(most, most), run(0, 1<<32), run(1<<32, 1), run(1<<32+5, 1), run(5, 1<<32+1),
	} {
		for size := range 5 {
			f, s := New(), &state{}
			extend(t, f, s, 512*size, gathered([]int{9, 4, 5, 7}[:size]))
			for n := range 64 - size {
				extends(t, f, api.ErrArg, 512*n, bad)
				extends(t, f, api.ErrArg, 512*n, run(20, 1), bad)
				extends(t, f, api.ErrArg, 512*n, bad, run(20, 1))
				extends(t, f, api.ErrArg, 512*n, run(20, 2), bad, run(30, 2))
				if n > 0 {
					extends(t, f, api.ErrArg, 512*n, run(20, n), bad)
					extends(t, f, api.ErrArg, 512*n, bad, run(20, n))
				}
			}
			is(t, f, s)
		}
	}
}

// P6.2: runs whose lengths come together to what is needed, while one of them may not be.
func TestExtendSums(t *testing.T) {
	f := New()
	for _, l := range [][]api.Run{
		{run(0, 3), run(10, -1)}, {run(10, -1), run(0, 3)}, {run(0, 0), run(0, 2)}, {run(0, 2), run(2, 0)},
		{run(0, most), run(0, least), run(0, 3)}, {run(0, most), run(0, most), run(0, 4)}, {run(0, least), run(0, least), run(0, 2)},
		{run(0, 1<<32), run(0, -1<<32), run(0, 2)}, {run(0, 512), run(0, -510)},
	} {
		extends(t, f, api.ErrArg, 1024, l...)
		is(t, f, &state{})
	}
}

// P6.2: runs at the edges that are taken.
func TestExtendTaken(t *testing.T) {
	for _, r := range []api.Run{run(0, 1), run(0, 64), run(511, 1), run(510, 2), run(448, 64), run(447, 64), run(1, 63)} {
		f, s := New(), &state{}
		extend(t, f, s, 512*r.Len, runs(r))
		is(t, f, s)
		if f.Blocks() != r.Len {
			t.Errorf("%v: %d blocks", r, f.Blocks())
		}
	}
}

// P6.2: a block too few, just enough, one too many.
func TestExtendJust(t *testing.T) {
	r := rand.New(rand.NewSource(3))
	for _, size := range sizes() {
		for _, n := range []int{0, 1, 2, 511, 512, 513, 1024, 1025, 32768 - size - 1, 32768 - size} {
			f, s := made(t, r, size)
			need, e := s.need(n)
			if e != api.OK {
				continue
			}
			l := drawnRuns(r, s, need)
			extends(t, f, api.ErrArg, n, append(slices.Clone(l), run(3, 1))...)
			extends(t, f, api.ErrArg, n, append(runs(run(3, 1)), l...)...)
			extends(t, f, api.ErrArg, n, run(0, need+1))
			if need > 0 {
				few := slices.Clone(l)
				few[0].Len--
				extends(t, f, api.ErrArg, n, few...)
				extends(t, f, api.ErrArg, n, l[1:]...)
				extends(t, f, api.ErrArg, n, l[:len(l)-1]...)
				extends(t, f, api.ErrArg, n)
				extends(t, f, api.ErrArg, n, run(9, need-1))
			}
			is(t, f, s)
			extend(t, f, s, n, l)
			is(t, f, s)
		}
	}
}

// P6.2: what fits into the last block needs none, and is refused one.
func TestExtendWithin(t *testing.T) {
	f, s := New(), &state{}
	extend(t, f, s, 1, runs(run(40, 1)))
	for _, n := range []int{0, 1, 509} {
		extends(t, f, api.ErrArg, n, run(41, 1))
		extend(t, f, s, n, nil)
		is(t, f, s)
	}
	extend(t, f, s, 1, nil)
	is(t, f, &state{512, []int{40}})
	extends(t, f, api.ErrArg, 1)
	extend(t, f, s, 0, []api.Run{})
	extend(t, f, s, 1, runs(run(12, 1)))
	is(t, f, &state{513, []int{40, 12}})
}

// P6.2, the chapter's word: runs that follow on one another are one, within a list and behind what was there.
func TestRunsFollow(t *testing.T) {
	for _, row := range []struct {
		first, second, want []api.Run
	}{
		{runs(run(5, 2)), runs(run(7, 2)), runs(run(5, 4))},
		{runs(run(5, 2)), runs(run(8, 2)), runs(run(5, 2), run(8, 2))},
		{runs(run(5, 2)), runs(run(6, 2)), runs(run(5, 2), run(6, 2))},
		{runs(run(5, 2)), runs(run(5, 2)), runs(run(5, 2), run(5, 2))},
		{runs(run(5, 2)), runs(run(3, 2)), runs(run(5, 2), run(3, 2))},
		{runs(run(5, 1), run(6, 1)), runs(run(7, 1), run(8, 1)), runs(run(5, 4))},
		{runs(run(5, 1), run(7, 1)), runs(run(8, 1), run(6, 1)), runs(run(5, 1), run(7, 2), run(6, 1))},
		{runs(run(9, 1), run(8, 1)), runs(run(7, 1), run(6, 1)), runs(run(9, 1), run(8, 1), run(7, 1), run(6, 1))},
		{runs(run(510, 2)), runs(run(0, 2)), runs(run(510, 2), run(0, 2))},
		{runs(run(0, 2)), runs(run(2, 1), run(3, 1)), runs(run(0, 4))},
		{runs(run(5, 1), run(5, 1)), runs(run(5, 1), run(6, 1)), runs(run(5, 1), run(5, 1), run(5, 2))},
		{runs(run(1, 2)), runs(run(4, 1), run(3, 1)), runs(run(1, 2), run(4, 1), run(3, 1))},
	} {
		f, s := New(), &state{}
		extend(t, f, s, 1024, row.first)
		extend(t, f, s, 1024, row.second)
		is(t, f, s)
		if l := f.Runs(); !slices.Equal(l, row.want) {
			t.Errorf("%v and %v: %v, not %v", row.first, row.second, l, row.want)
		}
		g, one := New(), &state{}
		extend(t, g, one, 2048, slices.Concat(row.first, row.second))
		is(t, g, s)
	}
}

// P6.2: as many runs as a file may have, and a list of one block a run.
func TestManyRuns(t *testing.T) {
	f, s := New(), &state{}
	var apart, beside []api.Run
	for n := range 64 {
		apart = append(apart, run(500-2*n, 1))
		beside = append(beside, run(100+n, 1))
	}
	extend(t, f, s, 32768, apart)
	is(t, f, s)
	if l := f.Runs(); len(l) != 64 {
		t.Errorf("%d runs", len(l))
	}
	cuts(t, f, 0, apart...)
	extends(t, f, api.OK, 32768, beside...)
	if l := f.Runs(); !slices.Equal(l, runs(run(100, 64))) {
		t.Errorf("%v", l)
	}
	long := make([]api.Run, 1000)
	for i := range long {
		long[i] = run(7, 1)
	}
	extends(t, New(), api.ErrArg, 32768, long...)
	extends(t, New(), api.OK, 32768, long[:64]...)
}

// P6.3: Cut at its edges.
func TestCut(t *testing.T) {
	r := rand.New(rand.NewSource(4))
	for _, size := range sizes() {
		f, s := made(t, r, size)
		for _, n := range []int{least, least + 1, -513, -512, -1, size + 1, size + 2, size + 512, 32769, 1 << 32, most - 1, most} {
			keeps(t, f, n, api.ErrInodeRange)
		}
		is(t, f, s)
		for _, n := range slices.Concat(sizes(), []int{size - 1, size, size - 512, size - 511, size - 513}) {
			if n < 0 || n > size {
				continue
			}
			g, then := f.Copy(), s.copy()
			cut(t, g, then, n)
			is(t, g, then)
			cuts(t, g, n)
			is(t, g, then)
		}
		is(t, f, s)
		cuts(t, f, size)
		is(t, f, s)
	}
}

// P6.3: a cut within a run, between two, within the last block, and of all.
func TestCutRuns(t *testing.T) {
	f, s := New(), &state{}
	extend(t, f, s, 3000, runs(run(20, 3), run(5, 2), run(5, 1)))
	for _, row := range []struct {
		n    int
		gone []api.Run
	}{
		{3000, nil}, {2999, nil}, {2561, nil}, {2560, runs(run(5, 1))}, {2049, runs(run(5, 1))}, {2048, runs(run(6, 1), run(5, 1))},
		{1537, runs(run(6, 1), run(5, 1))}, {1536, runs(run(5, 2), run(5, 1))}, {1025, runs(run(5, 2), run(5, 1))},
		{1024, runs(run(22, 1), run(5, 2), run(5, 1))}, {512, runs(run(21, 2), run(5, 2), run(5, 1))},
		{1, runs(run(21, 2), run(5, 2), run(5, 1))}, {0, runs(run(20, 3), run(5, 2), run(5, 1))},
	} {
		g := f.Copy()
		cuts(t, g, row.n, row.gone...)
		is(t, g, &state{row.n, s.blocks[:counted(row.n)]})
	}
	is(t, f, s)
}

// P6.3: a file that was cut is extended anew: by blocks that it had, and by others.
func TestExtendBehindCut(t *testing.T) {
	f, s := New(), &state{}
	extend(t, f, s, 2048, runs(run(10, 4)))
	cut(t, f, s, 700)
	is(t, f, s)
	extend(t, f, s, 324, nil)
	extend(t, f, s, 512, runs(run(30, 1)))
	is(t, f, &state{1536, []int{10, 11, 30}})
	cut(t, f, s, 1024)
	extend(t, f, s, 1024, runs(run(12, 2)))
	is(t, f, &state{2048, []int{10, 11, 12, 13}})
	cut(t, f, s, 0)
	is(t, f, &state{})
	extend(t, f, s, 1, runs(run(511, 1)))
	is(t, f, &state{1, []int{511}})
}

// P6.3: At at its edges.
func TestAtEdges(t *testing.T) {
	r := rand.New(rand.NewSource(5))
	for _, size := range sizes() {
		f, s := made(t, r, size)
		for _, n := range []int{least, least + 1, -513, -512, -1, size, size + 1, size + 511, size + 512, 32768, 32769, 1 << 32, most - 1, most} {
			nowhere(t, f, n, api.ErrInodeRange)
		}
		is(t, f, s)
	}
}

// P6.3, P6.5: each byte lies in the block that was given for it, and they rise within it.
func TestAtEach(t *testing.T) {
	r := rand.New(rand.NewSource(6))
	for _, size := range sizes() {
		f, s := made(t, r, size)
		n := 0
		for _, block := range s.blocks {
			for at := 0; at < 512 && n < size; at++ {
				lies(t, f, n, block, at)
				n++
			}
		}
		if n != size {
			t.Errorf("%d bytes of %d", n, size)
		}
		nowhere(t, f, n, api.ErrInodeRange)
	}
}

// P6.3: Cut and At of an empty file.
func TestEmpty(t *testing.T) {
	f := New()
	cuts(t, f, 0)
	for _, n := range []int{least, -1, 1, 512, most} {
		keeps(t, f, n, api.ErrInodeRange)
		nowhere(t, f, n, api.ErrInodeRange)
	}
	nowhere(t, f, 0, api.ErrInodeRange)
	extends(t, f, api.OK, 0)
	extends(t, f, api.ErrArg, 0, run(0, 1))
	extends(t, f, api.ErrArg, 0, run(0, 0))
	extends(t, f, api.ErrArg, 1)
	is(t, f, &state{})
}

// P6.1: a copy goes its own way, and so does what it was made of.
func TestCopy(t *testing.T) {
	r := rand.New(rand.NewSource(7))
	for range 100 {
		f, s := made(t, r, r.Intn(20000))
		g, then := f.Copy(), s.copy()
		if f == g {
			t.Fatal("the same node")
		}
		for range 6 {
			change(t, r, f, s)
			is(t, g, then)
			change(t, r, g, then)
			is(t, f, s)
		}
	}
}

// change cuts or extends a node, as it is drawn.
func change(t *testing.T, r *rand.Rand, f *Node, s *state) {
	t.Helper()
	if r.Intn(2) == 0 {
		cut(t, f, s, r.Intn(s.size+1))
		return
	}
	n := r.Intn(min(2000, 32768-s.size) + 1)
	need, _ := s.need(n)
	extend(t, f, s, n, drawnRuns(r, s, need))
}
