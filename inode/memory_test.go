package inode

import (
	"bytes"
	"math/rand"
	"slices"
	"testing"

	"cartulary/api"
)

// R1: on no node nothing is done, and nothing told.
func TestNoNode(t *testing.T) {
	var f *Node
	for _, n := range []int{least, -1, 0, 1, 512, 32768, 32769, most} {
		needs(t, f, n, 0, api.ErrArg)
		extends(t, f, api.ErrArg, n)
		extends(t, f, api.ErrArg, n, run(n, n))
		keeps(t, f, n, api.ErrArg)
		nowhere(t, f, n, api.ErrArg)
	}
	if f.Size() != 0 || f.Blocks() != 0 || len(f.Runs()) != 0 || f.Copy() != nil || len(f.Bytes()) != 0 {
		t.Errorf("%d, %d, %v, %v, %x", f.Size(), f.Blocks(), f.Runs(), f.Copy(), f.Bytes())
	}
}

// R1: a node that is made by hand is of an empty file.
func TestHandMadeNode(t *testing.T) {
	f := &Node{}
	is(t, f, &state{})
	extends(t, f, api.OK, 600, run(9, 2))
	is(t, f, &state{600, []int{9, 10}})
}

// R4: what is handed to Extend is not changed and not kept, its spare room included.
func TestExtendMemory(t *testing.T) {
	for _, had := range []int{0, 512, 1024} {
		f, s := New(), &state{}
		extend(t, f, s, had, gathered([]int{30, 31}[:had/512]))
		room := []api.Run{run(32, 2), run(34, 1), run(40, 1), run(7, 7)}
		then := slices.Clone(room)
		extend(t, f, s, 2048, room[:3])
		extends(t, f, api.ErrArg, 2048, room...)
		if !slices.Equal(room, then) {
			t.Errorf("%v", room)
		}
		spoilRuns(room[:2])
		is(t, f, s)
		extend(t, f, s, 512, runs(run(41, 1)))
		cut(t, f, s, 700)
		if want := runs(run(-1, -1), run(-1, -1), run(-1, -1), run(-1, -1)); !slices.Equal(room, want) {
			t.Errorf("%v", room)
		}
	}
}

// R4: what Read is handed is not changed and not kept.
func TestReadMemory(t *testing.T) {
	room := []byte("\x80\x04\x01\x07\x01zz")
	f, n, e := Read(room[:5])
	if n != 5 || e != api.OK || string(room) != "\x80\x04\x01\x07\x01zz" {
		t.Fatalf("%x, %d, %v", room, n, e)
	}
	clear(room)
	is(t, f, &state{512, []int{7}})
	extends(t, f, api.OK, 512, run(8, 1))
	if !bytes.Equal(room, make([]byte, 7)) {
		t.Errorf("%x", room)
	}
}

// R4: what is answered is new memory, spare room too.
func TestAnswersMemory(t *testing.T) {
	r := rand.New(rand.NewSource(11))
	for range 200 {
		f, s := made(t, r, r.Intn(32769))
		first, second := f.Runs(), f.Runs()
		spoilRuns(first)
		if !slices.Equal(second, gathered(s.blocks)) {
			t.Fatalf("Runs: %v", second)
		}
		spoilBytes(f.Bytes())
		is(t, f, s)
		gone := cut(t, f, s, r.Intn(s.size+1))
		spoilRuns(gone)
		is(t, f, s)
		change(t, r, f, s)
		spoilRuns(f.Runs())
		is(t, f, s)
		for _, x := range gone[:cap(gone)] {
			if x != run(-1, -1) {
				t.Fatalf("%v was written into what Cut answered", x)
			}
		}
	}
}

// R4: what was answered stays as it was, whatever is done to the node then.
func TestAnswersStay(t *testing.T) {
	r := rand.New(rand.NewSource(12))
	for range 200 {
		f, s := made(t, r, 1+r.Intn(20000))
		l, b := f.Runs(), f.Bytes()
		want, laid := gathered(s.blocks), s.laid()
		for range 5 {
			change(t, r, f, s)
		}
		if !slices.Equal(l, want) || !bytes.Equal(b, laid) {
			t.Fatalf("%v, %x; not %v, %x", l, b, want, laid)
		}
	}
}

// R4: two nodes have nothing in common, be one made of the other by an assignment.
func TestNodesApart(t *testing.T) {
	r := rand.New(rand.NewSource(13))
	for range 100 {
		f, s := made(t, r, r.Intn(20000))
		cut(t, f, s, s.size-s.size/3)
		hand, then := *f, s.copy()
		for range 4 {
			change(t, r, f, s)
			is(t, &hand, then)
			change(t, r, &hand, then)
			is(t, f, s)
		}
	}
}

func spoilRuns(l []api.Run) {
	l = l[:cap(l)]
	for i := range l {
		l[i] = run(-1, -1)
	}
}

func spoilBytes(b []byte) {
	b = b[:cap(b)]
	for i := range b {
		b[i] ^= 255
	}
}
