package inode

import (
	"bytes"
	"math/rand"
	"testing"

	"cartulary/api"
	"cartulary/codec"
)

// noNode asks whether bytes are refused, with nothing beside the error.
func noNode(t *testing.T, b string) {
	t.Helper()
	if f, n, e := Read([]byte(b)); f != nil || n != 0 || e != api.ErrInodeForm {
		t.Errorf("Read(%.60x): %v, %d, %v", b, f, n, e)
	}
}

// laidNumbers is numbers, one behind the other.
func laidNumbers(l ...uint64) string {
	var b []byte
	for _, n := range l {
		b = codec.PutUint(b, n)
	}
	return string(b)
}

// P6.4: byte by byte.
func TestBytes(t *testing.T) {
	for _, row := range []struct {
		size int
		l    []api.Run
		want string
	}{
		{0, nil, "\x00\x00"},
		{1, runs(run(0, 1)), "\x01\x01\x00\x01"},
		{127, runs(run(127, 1)), "\x7f\x01\x7f\x01"},
		{128, runs(run(128, 1)), "\x80\x01\x01\x80\x01\x01"},
		{511, runs(run(511, 1)), "\xff\x03\x01\xff\x03\x01"},
		{512, runs(run(7, 1)), "\x80\x04\x01\x07\x01"},
		{513, runs(run(7, 2)), "\x81\x04\x01\x07\x02"},
		{513, runs(run(7, 1), run(7, 1)), "\x81\x04\x02\x07\x01\x07\x01"},
		{513, runs(run(8, 1), run(7, 1)), "\x81\x04\x02\x08\x01\x07\x01"},
		{1537, runs(run(3, 1), run(4, 1), run(1, 2)), "\x81\x0c\x02\x03\x02\x01\x02"},
		{32767, runs(run(0, 64)), "\xff\xff\x01\x01\x00\x40"},
		{32768, runs(run(448, 64)), "\x80\x80\x02\x01\xc0\x03\x40"},
	} {
		f, s := New(), &state{}
		extend(t, f, s, row.size, row.l)
		if b := f.Bytes(); string(b) != row.want {
			t.Errorf("Bytes of %d in %v: %x, not %x", row.size, row.l, b, row.want)
		}
		for _, behind := range []string{"", "\x00", "\xff", "\x01\x02", row.want} {
			g, n, e := Read([]byte(row.want + behind))
			if n != len(row.want) || e != api.OK {
				t.Fatalf("Read(%x): %d, %v", row.want+behind, n, e)
			}
			is(t, g, s)
		}
	}
}

// P6.4: bytes that are cut, at each place.
func TestReadCut(t *testing.T) {
	r := rand.New(rand.NewSource(8))
	for _, size := range sizes() {
		f, _ := made(t, r, size)
		b := f.Bytes()
		for n := range b {
			noNode(t, string(b[:n]))
		}
	}
	noNode(t, "")
	if f, n, e := Read(nil); f != nil || n != 0 || e != api.ErrInodeForm {
		t.Errorf("Read of nothing: %v, %d, %v", f, n, e)
	}
}

// P6.4: numbers that are not written in the shortest form, one at a time, and such as are none.
func TestReadForm(t *testing.T) {
	good := []uint64{513, 2, 300, 1, 7, 1}
	for i := range good {
		ahead, behind := laidNumbers(good[:i]...), laidNumbers(good[i+1:]...)
		it := laidNumbers(good[i])
		last := len(it) - 1
		longer := it[:last] + string([]byte{it[last] | 128, 0})
		noNode(t, ahead+longer+behind)
		noNode(t, ahead+it[:last]+string([]byte{it[last] | 128, 128, 0})+behind)
		noNode(t, ahead+"\xff\xff\xff\xff\xff\xff\xff\xff\xff\x02"+behind)
		noNode(t, ahead+"\xff\xff\xff\xff\xff\xff\xff\xff\xff\xff"+behind)
		noNode(t, ahead+it[:last]+string([]byte{it[last] | 128}))
	}
	if _, _, e := Read([]byte(laidNumbers(good...))); e != api.OK {
		t.Errorf("%v", e)
	}
}

// P6.4: numbers that are well written, but tell no node.
func TestReadRefused(t *testing.T) {
	const top = 1<<64 - 1
	for _, l := range [][]uint64{
		{32769, 1, 0, 64}, {32769, 1, 0, 65}, {33280, 1, 0, 65}, {1 << 32, 1, 0, 64}, {1 << 63, 0}, {top, 0}, {top, 1, 0, 1}, {1<<32 + 512, 1, 7, 1}, {65536, 1, 0, 128},
		{0, 1}, {0, 1, 0, 0}, {0, 1, 7, 0}, {0, 1, 7, 1}, {512, 0}, {1, 0}, {513, 1, 7, 1}, {513, 1, 7, 3}, {512, 1, 7, 2}, {511, 1, 7, 0}, {1024, 1, 7, 1}, {1025, 1, 7, 2},
		{1024, 2, 7, 1, 8, 1}, {1536, 2, 7, 2, 9, 1}, {1536, 2, 7, 1, 8, 2}, {1536, 3, 9, 1, 7, 1, 8, 1}, {1536, 3, 7, 1, 8, 1, 9, 1}, {1536, 3, 7, 1, 8, 1, 20, 1},
		{512, 2, 7, 1, 8, 0}, {512, 2, 7, 0, 7, 1}, {512, 2, 9, 0, 7, 1}, {512, 2, 7, 1, 9, 0}, {512, 2, 7, 1, 9, 1}, {1024, 3, 7, 1, 9, 1, 11, 1}, {1024, 2, 7, 1, 9, 2},
		{512, 1, 512, 1}, {1024, 1, 511, 2}, {512, 1, 600, 1}, {1536, 1, 510, 3}, {512, 1, 1 << 32, 1}, {512, 1, 1<<32 + 7, 1}, {512, 1, top, 1}, {512, 1, 1 << 63, 1}, {1024, 1, top, 2}, {512, 1, 32768, 1},
		{512, 1, 7, 1<<32 + 1}, {512, 1, 7, top}, {512, 1, 7, 1 << 63}, {512, 1, 0, 1<<63 + 1}, {512, 2, 7, 2, 9, top}, {512, 2, 7, top, 9, 2}, {32768, 1, 0, 32768}, {32768, 1, 0, 65},
		{512, 2, 7, 1}, {512, 1, 7}, {512, 1}, {512}, {512, 64, 7, 1}, {512, 32768, 7, 1}, {512, top, 7, 1}, {512, 1 << 63, 7, 1}, {512, 1<<63 + 1, 7, 1}, {512, 1<<32 + 1, 7, 1}, {0, 1 << 63}, {0, 1 << 32}, {0, top},
	} {
		noNode(t, laidNumbers(l...))
		noNode(t, laidNumbers(append(l, 0)...)+"\xff")
	}
	many := []uint64{32768, 65}
	for n := range uint64(65) {
		many = append(many, 2*n, 1)
	}
	noNode(t, laidNumbers(many...))
	many[1] = 64
	if f, n, e := Read([]byte(laidNumbers(many[:130]...))); f.Blocks() != 64 || n != len(laidNumbers(many[:130]...)) || e != api.OK {
		t.Errorf("%d, %d, %v", f.Blocks(), n, e)
	}
}

// P6.4: of numbers all whose values are near the edges, just those are read that are laid for a node.
func TestReadDrawnNumbers(t *testing.T) {
	r := rand.New(rand.NewSource(9))
	draw := func(l ...uint64) uint64 { return l[r.Intn(len(l))] }
	read := 0
	for range 200000 {
		l := []uint64{draw(0, 1, 511, 512, 513, 1024, 1025, 1536), draw(0, 1, 2, 2, 3)}
		for range l[1] {
			l = append(l, draw(0, 3, 4, 5, 6, 509, 510, 511, 512), draw(0, 1, 1, 2, 3))
		}
		if asked(t, []byte(laidNumbers(l...)), l) {
			read++
		}
	}
	if read < 1000 {
		t.Errorf("only %d were read", read)
	}
}

// asked asks whether Read takes numbers just where the chapter's words do, and tells it.
func asked(t *testing.T, b []byte, l []uint64) bool {
	t.Helper()
	var given []api.Run
	for i := 2; i < len(l); i += 2 {
		given = append(given, run(int(l[i]), int(l[i+1])))
	}
	s := &state{}
	want := s.extend(int(l[0]), given) == api.OK && areRuns(given)
	f, n, e := Read(b)
	if !want {
		noNode(t, string(b))
		return false
	}
	if n != len(b) || e != api.OK {
		t.Fatalf("Read(%v): %d, %v", l, n, e)
	}
	is(t, f, s)
	return true
}

// P6.4: of all short texts, whatever is read is what the node tells.
func TestReadShort(t *testing.T) {
	edge := []byte{0, 1, 2, 3, 4, 5, 63, 64, 65, 127, 128, 129, 255}
	var try func(b []byte, left int)
	try = func(b []byte, left int) {
		f, n, e := Read(b)
		if e == api.OK && !bytes.Equal(f.Bytes(), b[:n]) || e != api.OK && (f != nil || n != 0 || e != api.ErrInodeForm) {
			t.Fatalf("Read(%x): %v, %d, %v", b, f, n, e)
		}
		if left == 0 {
			return
		}
		for _, c := range edge {
			try(append(b, c), left-1)
		}
	}
	try(nil, 5)
}

// P6.4, R1: bytes that are drawn, and bytes of nodes of which some are others.
func TestReadJunk(t *testing.T) {
	r := rand.New(rand.NewSource(10))
	for i := range 20000 {
		f, _ := made(t, r, r.Intn(6000))
		b := f.Bytes()
		if i%4 == 0 {
			b = make([]byte, r.Intn(40))
			r.Read(b)
		}
		for range r.Intn(3) {
			if len(b) > 0 {
				b[r.Intn(len(b))] = byte(r.Intn(256))
			}
		}
		g, n, e := Read(b)
		if e != api.OK {
			noNode(t, string(b))
		} else if !bytes.Equal(g.Bytes(), b[:n]) {
			t.Fatalf("Read(%x): %x", b, g.Bytes())
		}
	}
}
