package alloc

import (
	"bytes"
	"math/rand"
	"slices"
	"testing"

	"cartulary/api"
)

// R1: on no map nothing is done, and nothing told.
func TestNoMap(t *testing.T) {
	var m *Map
	for _, n := range []int{least, -1, 0, 1, 512, most} {
		refuses(t, m, n, api.ErrArg)
		gives(t, m, api.ErrArg, run(n, n))
	}
	gives(t, m, api.ErrArg)
	m.Commit()
	m.Reset()
	if blocks, free, all, b := told(m); blocks != 0 || free != 0 || len(all) != 0 || len(b) != 0 {
		t.Errorf("%d, %d, %v, %x", blocks, free, all, b)
	}
}

// R1: a map that is made by hand has no blocks.
func TestHandMadeMap(t *testing.T) {
	m := &Map{}
	is(t, m, states(0))
	takes(t, m, 0)
	refuses(t, m, 1, api.ErrAllocFull)
	refuses(t, m, -1, api.ErrArg)
	gives(t, m, api.OK)
	gives(t, m, api.ErrAllocRun, run(0, 1))
	m.Commit()
	m.Reset()
	is(t, m, states(0))
}

// R4: two maps have nothing in common, be one read from the other or a copy of it.
func TestMapsApart(t *testing.T) {
	m := New(20)
	takes(t, m, 5, run(0, 5))
	read, e := Read(m.Bytes())
	if e != api.OK {
		t.Fatal(e)
	}
	hand := *m
	takes(t, m, 3, run(5, 3))
	m.Commit()
	for _, x := range []*Map{read, &hand} {
		takes(t, x, 1, run(5, 1))
		gives(t, x, api.OK, run(5, 1))
	}
	if m.Free() != 12 || New(20).Free() != 20 {
		t.Errorf("Free: %d, %d", m.Free(), New(20).Free())
	}
}

// R4: what is handed to Give is not changed and not kept, its spare room included.
func TestGiveMemory(t *testing.T) {
	m := New(10)
	takes(t, m, 8, run(0, 8))
	room := []api.Run{run(4, 2), run(0, 1), run(7, 7), run(3, 3)}
	then := slices.Clone(room)
	gives(t, m, api.OK, room[:2]...)
	gives(t, m, api.ErrAllocRun, room[:3]...)
	if !slices.Equal(room, then) {
		t.Errorf("%v", room)
	}
	b := m.Bytes()
	clear(room)
	if !bytes.Equal(m.Bytes(), b) {
		t.Errorf("%x", m.Bytes())
	}
}

// R4: what Read is handed is not changed and not kept.
func TestReadMemory(t *testing.T) {
	room := []byte("\x0a\x39\x00zz")
	m, e := Read(room[:3])
	if e != api.OK || string(room) != "\x0a\x39\x00zz" {
		t.Fatalf("%x, %v", room, e)
	}
	clear(room)
	if b := m.Bytes(); string(b) != "\x0a\x39\x00" {
		t.Errorf("%x", b)
	}
	takes(t, m, 1, run(1, 1))
	if string(room) != zeros(5) {
		t.Errorf("%x", room)
	}
}

// R4: what is answered is new memory, spare room too.
func TestAnswersMemory(t *testing.T) {
	for _, blocks := range sizes() {
		m, s := New(blocks), states(blocks)
		for _, n := range []int{blocks / 2, blocks / 3} {
			l, e := m.Take(n)
			if want, we := s.take(n); !slices.Equal(l, want) || e != we {
				t.Fatalf("Take(%d): %v, %v", n, l, e)
			}
			spoilRuns(l)
			is(t, m, s)
		}
		first, second := m.Bytes(), m.Bytes()
		spoilBytes(first)
		if !bytes.Equal(second, s.laid()) {
			t.Errorf("Bytes: %x", second)
		}
		is(t, m, s)
	}
}

func spoilRuns(l []api.Run) {
	l = l[:cap(l)]
	for i := range l {
		l[i] = run(-1, -1)
	}
}

func spoilBytes(b []byte) {
	b = b[:cap(b)]
	for i := range b {
		b[i] ^= 255
	}
}

// R3: no call that answers an error changes anything.
func TestErrorsChangeNothing(t *testing.T) {
	r := rand.New(rand.NewSource(5))
	for range 200 {
		m, _ := mixed(t, r, 1+r.Intn(100))
		then := *m
		m.Take(m.Free() + 1)
		m.Take(-1)
		m.Give(runs(run(0, m.Blocks()), run(0, m.Blocks())))
		m.Give(runs(run(m.Blocks(), 1)))
		if *m != then {
			t.Fatal("the map is another one")
		}
	}
}
