package inode

import (
	"math/rand"
	"slices"
	"testing"

	"cartulary/api"
	"cartulary/codec"
)

const (
	most  = 1<<63 - 1
	least = -1 << 63
)

// sizes are the edges of how many bytes a file may have.
func sizes() []int {
	return []int{0, 1, 2, 510, 511, 512, 513, 1023, 1024, 1025, 16384, 32255, 32256, 32257, 32766, 32767, 32768}
}

func run(from, n int) api.Run { return api.Run{From: from, Len: n} }

func runs(l ...api.Run) []api.Run { return l }

// state is what a node is to be: how many bytes, and the number of each block.
type state struct {
	size   int
	blocks []int
}

func (s *state) copy() *state { return &state{s.size, slices.Clone(s.blocks)} }

// counted is how many blocks so many bytes need, counted one by one.
func counted(size int) int {
	k := 0
	for ; size > 0; size -= 512 {
		k++
	}
	return k
}

func (s *state) need(n int) (int, api.Errno) {
	switch {
	case n < 0:
		return 0, api.ErrArg
	case n > 32768 || s.size+n > 32768:
		return 0, api.ErrInodeRange
	}
	return counted(s.size+n) - len(s.blocks), api.OK
}

// numbered is the blocks of runs, one by one; false, if there are runs that may not be.
func numbered(l []api.Run) ([]int, bool) {
	var all []int
	for _, r := range l {
		if r.Len < 1 || r.Len > 512 || r.From < 0 || r.From > 511 {
			return nil, false
		}
		for n := r.From; n < r.From+r.Len; n++ {
			if n > 511 {
				return nil, false
			}
			all = append(all, n)
		}
	}
	return all, true
}

// gathered is blocks as runs.
func gathered(blocks []int) []api.Run {
	var l []api.Run
	for i, n := range blocks {
		if i > 0 && blocks[i-1]+1 == n {
			l[len(l)-1].Len++
		} else {
			l = append(l, run(n, 1))
		}
	}
	return l
}

func (s *state) extend(n int, l []api.Run) api.Errno {
	need, e := s.need(n)
	if e != api.OK {
		return e
	}
	blocks, ok := numbered(l)
	if !ok || len(blocks) != need {
		return api.ErrArg
	}
	s.size += n
	s.blocks = append(slices.Clone(s.blocks), blocks...)
	return api.OK
}

func (s *state) cut(n int) ([]api.Run, api.Errno) {
	if n < 0 || n > s.size {
		return nil, api.ErrInodeRange
	}
	kept := counted(n)
	gone := gathered(s.blocks[kept:])
	s.size, s.blocks = n, s.blocks[:kept]
	return gone, api.OK
}

// laid is what Bytes is to tell.
func (s *state) laid() []byte {
	l := gathered(s.blocks)
	b := codec.PutUint(nil, uint64(s.size))
	b = codec.PutUint(b, uint64(len(l)))
	for _, r := range l {
		b = codec.PutUint(b, uint64(r.From))
		b = codec.PutUint(b, uint64(r.Len))
	}
	return b
}

// is asks whether a node tells just that, be it of itself or of a copy or read from its bytes.
func is(t *testing.T, f *Node, s *state) {
	t.Helper()
	tells(t, f, s)
	tells(t, f.Copy(), s)
	b := f.Bytes()
	read, n, e := Read(b)
	if n != len(b) || e != api.OK {
		t.Fatalf("Read(%x): %d, %v", b, n, e)
	}
	tells(t, read, s)
}

func tells(t *testing.T, f *Node, s *state) {
	t.Helper()
	if f.Size() != s.size || f.Blocks() != len(s.blocks) {
		t.Fatalf("%d bytes in %d blocks, not %d in %d", f.Size(), f.Blocks(), s.size, len(s.blocks))
	}
	if l, want := f.Runs(), gathered(s.blocks); !slices.Equal(l, want) || !areRuns(l) {
		t.Fatalf("Runs: %v, not %v", l, want)
	}
	if b, want := f.Bytes(), s.laid(); !slices.Equal(b, want) {
		t.Fatalf("Bytes: %x, not %x", b, want)
	}
	for i, block := range s.blocks {
		lies(t, f, 512*i, block, 0)
		last := min(512*i+511, s.size-1)
		lies(t, f, last, block, last-512*i)
	}
	nowhere(t, f, -1, api.ErrInodeRange)
	nowhere(t, f, s.size, api.ErrInodeRange)
}

// areRuns is the chapter's word.
func areRuns(l []api.Run) bool {
	for i, r := range l {
		if r.Len < 1 || i > 0 && l[i-1].From+l[i-1].Len == r.From {
			return false
		}
	}
	return true
}

// lies asks whether At answers just that.
func lies(t *testing.T, f *Node, n, block, at int) {
	t.Helper()
	if b, k, e := f.At(n); b != block || k != at || e != api.OK {
		t.Fatalf("At(%d): %d, %d, %v; not %d, %d", n, b, k, e, block, at)
	}
}

// nowhere asks whether At answers that error, and nothing beside it.
func nowhere(t *testing.T, f *Node, n int, want api.Errno) {
	t.Helper()
	if b, k, e := f.At(n); b != 0 || k != 0 || e != want {
		t.Fatalf("At(%d): %d, %d, %v; not %v", n, b, k, e, want)
	}
}

// needs asks whether Need answers just that.
func needs(t *testing.T, f *Node, n, want int, err api.Errno) {
	t.Helper()
	if k, e := f.Need(n); k != want || e != err {
		t.Errorf("Need(%d) of %d bytes: %d, %v; not %d, %v", n, f.Size(), k, e, want, err)
	}
}

// extends asks whether Extend answers that.
func extends(t *testing.T, f *Node, want api.Errno, n int, l ...api.Run) {
	t.Helper()
	if e := f.Extend(n, l); e != want {
		t.Errorf("Extend(%d, %v) of %d bytes: %v, not %v", n, l, f.Size(), e, want)
	}
}

// cuts asks whether Cut answers just that.
func cuts(t *testing.T, f *Node, n int, want ...api.Run) {
	t.Helper()
	if l, e := f.Cut(n); !slices.Equal(l, want) || !areRuns(l) || e != api.OK {
		t.Errorf("Cut(%d): %v, %v; not %v", n, l, e, want)
	}
}

// keeps asks whether Cut answers that error, and nothing beside it.
func keeps(t *testing.T, f *Node, n int, want api.Errno) {
	t.Helper()
	if l, e := f.Cut(n); len(l) != 0 || e != want {
		t.Errorf("Cut(%d): %v, %v; not %v", n, l, e, want)
	}
}

// drawnRuns is runs of so many blocks in all: some follow on the one ahead of them, or on what the file has, some name a block again.
func drawnRuns(r *rand.Rand, s *state, blocks int) []api.Run {
	var l []api.Run
	next := -1
	if len(s.blocks) > 0 {
		next = s.blocks[len(s.blocks)-1] + 1
	}
	for blocks > 0 {
		from := r.Intn(512)
		switch r.Intn(4) {
		case 0:
			from = max(0, min(next, 511))
		case 1:
			from = max(0, next-1-r.Intn(3))
		}
		n := 1 + r.Intn(min(blocks, 512-from, 1+r.Intn(12)))
		l = append(l, run(from, n))
		next = from + n
		blocks -= n
	}
	return l
}

// made is a node of so many bytes, with what it is to be.
func made(t *testing.T, r *rand.Rand, size int) (*Node, *state) {
	t.Helper()
	f, s := New(), &state{}
	for s.size < size {
		n := min(size-s.size, 1+r.Intn(4000))
		need, _ := s.need(n)
		extend(t, f, s, n, drawnRuns(r, s, need))
	}
	return f, s
}

// extend does it to a node and to what it is to be.
func extend(t *testing.T, f *Node, s *state, n int, l []api.Run) {
	t.Helper()
	if e, want := f.Extend(n, l), s.extend(n, l); e != want {
		t.Fatalf("Extend(%d, %v): %v, not %v", n, l, e, want)
	}
}

// cut does it to a node and to what it is to be.
func cut(t *testing.T, f *Node, s *state, n int) []api.Run {
	t.Helper()
	l, e := f.Cut(n)
	if want, we := s.cut(n); !slices.Equal(l, want) || !areRuns(l) || e != we {
		t.Fatalf("Cut(%d): %v, %v; not %v, %v", n, l, e, want, we)
	}
	return l
}
