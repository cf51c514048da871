package alloc

import (
	"bytes"
	"math/rand"
	"slices"
	"testing"

	"cartulary/api"
	"cartulary/codec"
)

// noMap asks whether bytes are refused, with nothing beside the error.
func noMap(t *testing.T, b []byte) {
	t.Helper()
	if m, e := Read(b); m != nil || e != api.ErrAllocForm {
		t.Errorf("Read(%.40x): %v, %v", b, m, e)
	}
}

// P5.4: byte by byte.
func TestBytes(t *testing.T) {
	for _, row := range []struct {
		blocks int
		used   []api.Run
		want   string
	}{
		{0, nil, "\x00"}, {1, nil, "\x01\x00"}, {1, runs(run(0, 1)), "\x01\x01"},
		{7, runs(run(0, 7)), "\x07\x7f"}, {7, runs(run(6, 1)), "\x07\x40"},
		{8, runs(run(0, 8)), "\x08\xff"}, {8, runs(run(7, 1)), "\x08\x80"}, {8, runs(run(1, 1), run(4, 2)), "\x08\x32"},
		{9, runs(run(0, 9)), "\x09\xff\x01"}, {9, runs(run(8, 1)), "\x09\x00\x01"}, {9, nil, "\x09\x00\x00"},
		{128, runs(run(120, 8)), "\x80\x01" + zeros(15) + "\xff"},
		{511, runs(run(510, 1)), "\xff\x03" + zeros(63) + "\x40"}, {511, runs(run(0, 1)), "\xff\x03\x01" + zeros(63)},
		{512, runs(run(511, 1)), "\x80\x04" + zeros(63) + "\x80"}, {512, nil, "\x80\x04" + zeros(64)},
	} {
		m := withUse(t, row.blocks, row.used)
		if b := m.Bytes(); string(b) != row.want {
			t.Errorf("Bytes of %d with %v: %x, not %x", row.blocks, row.used, b, row.want)
		}
		x, e := Read([]byte(row.want))
		if e != api.OK {
			t.Fatalf("Read(%x): %v", row.want, e)
		}
		m.Commit() // as the one that is read, to which nothing was done since
		if *x != *m {
			t.Errorf("Read(%x): another map", row.want)
		}
	}
}

func zeros(n int) string { return string(make([]byte, n)) }

// withUse is a map in which just those runs are in use, and none was at the last Commit.
func withUse(t *testing.T, blocks int, used []api.Run) *Map {
	t.Helper()
	m := New(blocks)
	takes(t, m, blocks, slices.Collect(m.All())...)
	drop := states(blocks)
	for _, r := range used {
		for n := r.From; n < r.From+r.Len; n++ {
			drop.used[n] = true
		}
	}
	gives(t, m, api.OK, gathered(drop.open())...)
	return m
}

// P5.4: Bytes tells what is in use now, whatever was at the last Commit.
func TestBytesNow(t *testing.T) {
	m := New(10)
	takes(t, m, 4, run(0, 4))
	m.Commit()
	gives(t, m, api.OK, run(1, 2))
	takes(t, m, 1, run(4, 1))
	b := m.Bytes()
	if string(b) != "\x0a\x19\x00" {
		t.Errorf("Bytes: %x", b)
	}
	x, e := Read(b)
	if e != api.OK {
		t.Fatalf("Read: %v", e)
	}
	// To the map that is read nothing was done: what had been given may be taken, and Reset undoes nothing.
	is(t, x, &state{bitsOf(10, 0, 3, 4), bitsOf(10, 0, 3, 4)})
	takes(t, x, 3, run(1, 2), run(5, 1))
	x.Reset()
	if string(x.Bytes()) != string(b) {
		t.Errorf("Bytes: %x", x.Bytes())
	}
}

// P5.4: what Bytes tells is read as that map, and each byte less or more is none.
func TestReadAgain(t *testing.T) {
	r := rand.New(rand.NewSource(3))
	for i := range 60 {
		blocks := r.Intn(513)
		if list := sizes(); i < len(list) {
			blocks = list[i]
		}
		m, s := mixed(t, r, blocks)
		b := m.Bytes()
		x, e := Read(b)
		if e != api.OK {
			t.Fatalf("Read(%x): %v", b, e)
		}
		s.commit()
		is(t, x, s)
		for cut := range len(b) {
			noMap(t, b[:cut])
		}
		for more := range 256 {
			noMap(t, append(bytes.Clone(b), byte(more)))
		}
		noMap(t, append(bytes.Clone(b), b...))
	}
}

// P5.4: a bit for a block that there is not.
func TestReadNoSuchBlock(t *testing.T) {
	for _, blocks := range sizes() {
		for _, b := range [][]byte{New(blocks).Bytes(), withUse(t, blocks, gathered(states(blocks).open())).Bytes()} {
			for bit := blocks; bit%8 != 0; bit++ {
				wrong := bytes.Clone(b)
				wrong[len(wrong)-1] |= 1 << (bit % 8)
				noMap(t, wrong)
			}
		}
	}
}

// P5.4: numbers that are not the shortest, or are beyond 512, whatever is behind them.
func TestReadNumbers(t *testing.T) {
	for _, head := range []string{
		"\x80\x00", "\x81\x00", "\x88\x00", "\x88\x80\x00", "\x80\x84\x00", "\xff\x83\x80\x00", "\x80\x80\x80\x80\x80\x80\x80\x80\x80\x00",
		"\x80", "\xff", "\x88\x80", "\xff\xff\xff\xff\xff\xff\xff\xff\xff\xff\x01", "\xff\xff\xff\xff\xff\xff\xff\xff\xff\x02",
	} {
		wrongNumber(t, []byte(head))
	}
	for _, n := range []uint64{513, 514, 520, 1 << 10, 1<<16 + 8, 1 << 31, 1 << 32, 1<<32 + 8, 1<<63 - 1, 1 << 63, 1<<63 + 8, 1<<64 - 1, 1<<64 - 8} {
		wrongNumber(t, codec.PutUint(nil, n))
	}
	noMap(t, nil)
	noMap(t, []byte{})
}

func wrongNumber(t *testing.T, head []byte) {
	t.Helper()
	for behind := range 70 {
		noMap(t, append(bytes.Clone(head), make([]byte, behind)...))
	}
	noMap(t, append(bytes.Clone(head), make([]byte, 129)...))
}

// P5.4: of all texts of at most two bytes, and of three with any beginning, just those are read that some map tells.
func TestReadAllShort(t *testing.T) {
	noted := map[string]bool{}
	for blocks := range 9 {
		for bits := range 1 << blocks {
			b := []byte{byte(blocks)}
			if blocks > 0 {
				b = append(b, byte(bits))
			}
			noted[string(b)] = true
		}
	}
	for first := range 256 {
		short(t, noted, []byte{byte(first)})
		for second := range 256 {
			short(t, noted, []byte{byte(first), byte(second)})
		}
	}
	for blocks := 9; blocks <= 16; blocks++ {
		for bits := range 1 << 16 {
			b := []byte{byte(blocks), byte(bits), byte(bits >> 8)}
			noted[string(b)] = bits < 1<<blocks
			short(t, noted, b)
		}
	}
}

func short(t *testing.T, noted map[string]bool, b []byte) {
	t.Helper()
	if !noted[string(b)] {
		noMap(t, b)
		return
	}
	m, e := Read(b)
	if e != api.OK || !bytes.Equal(m.Bytes(), b) || m.Blocks() != int(b[0]) {
		t.Errorf("Read(%x): %v", b, e)
	}
}

// P5.4, R1: bytes that are drawn.
func TestReadDrawn(t *testing.T) {
	r := rand.New(rand.NewSource(4))
	for range 20000 {
		b := make([]byte, r.Intn(70))
		r.Read(b)
		if len(b) > 2 && r.Intn(2) == 0 {
			copy(b, codec.PutUint(nil, uint64(128+8*(len(b)-2)-r.Intn(140))))
		}
		if m, e := Read(b); e == api.OK {
			if !bytes.Equal(m.Bytes(), b) || *m != committed(m) {
				t.Errorf("Read(%x) is another map", b)
			}
		} else if m != nil || e != api.ErrAllocForm {
			t.Errorf("Read(%x): %v, %v", b, m, e)
		}
	}
}

func committed(m *Map) Map {
	x := *m
	x.Commit()
	return x
}
