package inode

import (
	"math/rand"
	"slices"
	"testing"

	"cartulary/api"
)

// P6.5, and all promises ahead of it: many runs of calls that are drawn.
func TestDrawnCalls(t *testing.T) {
	r := rand.New(rand.NewSource(14))
	for range 400 {
		f, s := New(), &state{}
		for range 40 {
			drawnCall(t, r, f, s)
			is(t, f, s)
		}
	}
}

func drawnCall(t *testing.T, r *rand.Rand, f *Node, s *state) {
	t.Helper()
	switch r.Intn(6) {
	case 0:
		cut(t, f, s, r.Intn(s.size+3)-1)
	case 1:
		wrongExtend(t, r, f, s)
	default:
		n := r.Intn(1 + []int{3, 600, 3000, 20000}[r.Intn(4)])
		if need, e := s.need(n); e == api.OK {
			extend(t, f, s, n, drawnRuns(r, s, need))
		} else {
			extend(t, f, s, n, drawnRuns(r, s, counted(n)))
		}
	}
}

// wrongExtend extends by a good list that one change has made wrong.
func wrongExtend(t *testing.T, r *rand.Rand, f *Node, s *state) {
	t.Helper()
	n := r.Intn(min(3000, 32768-s.size) + 1)
	need, _ := s.need(n)
	l := drawnRuns(r, s, need)
	wrong := []api.Run{run(0, 0), run(511, 2), run(-1, 1), run(512, 1), run(7, 1), run(7, -1), run(7, most), run(most, 1)}
	l = slices.Insert(l, r.Intn(len(l)+1), wrong[r.Intn(len(wrong))])
	if s.copy().extend(n, l) != api.ErrArg {
		t.Fatalf("Extend(%d, %v) is not wrong", n, l)
	}
	extend(t, f, s, n, l)
}

// P6.5: what Cut takes away is what Extend gave last, and the node is as it was.
func TestExtendedAndCutBack(t *testing.T) {
	r := rand.New(rand.NewSource(15))
	for range 500 {
		f, s := made(t, r, r.Intn(16000))
		var ends []int
		var given [][]int
		for range 1 + r.Intn(6) {
			n := r.Intn(2500)
			need, _ := s.need(n)
			l := drawnRuns(r, s, need)
			blocks, _ := numbered(l)
			ends, given = append(ends, s.size), append(given, blocks)
			extend(t, f, s, n, l)
		}
		for i := len(ends) - 1; i >= 0; i-- {
			cuts(t, f, ends[i], gathered(given[i])...)
			s.cut(ends[i])
			is(t, f, s)
		}
	}
}

// P6.5: Cut gives its blocks such that Extend with them makes the node that was.
func TestCutAndExtendedBack(t *testing.T) {
	r := rand.New(rand.NewSource(16))
	for range 500 {
		f, s := made(t, r, r.Intn(32769))
		size := s.size
		n := r.Intn(size + 1)
		gone, e := f.Cut(n)
		if e != api.OK {
			t.Fatal(e)
		}
		extends(t, f, api.OK, size-n, gone...)
		is(t, f, s)
	}
}

// P6.5: the places of all bytes, as the runs alone tell them.
func TestPlacesFollowRuns(t *testing.T) {
	r := rand.New(rand.NewSource(17))
	for range 40 {
		f, _ := made(t, r, r.Intn(32769))
		n := 0
		for _, x := range f.Runs() {
			for block := x.From; block < x.From+x.Len; block++ {
				for at := 0; at < 512 && n < f.Size(); at++ {
					lies(t, f, n, block, at)
					n++
				}
			}
		}
		if n != f.Size() {
			t.Fatalf("%d of %d bytes", n, f.Size())
		}
	}
}

// P6.4, P6.5: nodes one behind the other are read one by one.
func TestReadSeveral(t *testing.T) {
	r := rand.New(rand.NewSource(18))
	for range 100 {
		var b []byte
		var all []*state
		for range r.Intn(6) {
			f, s := made(t, r, r.Intn(9000))
			b = append(b, f.Bytes()...)
			all = append(all, s)
		}
		for _, s := range all {
			f, n, e := Read(b)
			if e != api.OK {
				t.Fatal(e)
			}
			is(t, f, s)
			b = b[n:]
		}
		if len(b) != 0 {
			t.Fatalf("%x is left", b)
		}
	}
}
