package super

import (
	"bytes"
	"math/rand"
	"testing"

	"cartulary/api"
	"cartulary/blockdev"
	"cartulary/codec"
)

// R1: on no device there is no record, and nothing is done.
func TestNoDevice(t *testing.T) {
	for _, at := range []int{least, -1, 0, 4, 63, most} {
		for _, data := range [][]byte{nil, {}, {1}, make([]byte, 400), make([]byte, 401)} {
			if e := Format(nil, at, data); e != api.ErrArg {
				t.Errorf("Format(%d): %v", at, e)
			}
			if e := Store(nil, at, data); e != api.ErrArg {
				t.Errorf("Store(%d): %v", at, e)
			}
		}
		tells(t, nil, at, record{e: api.ErrArg})
	}
}

// R1: a device that is made by hand has no blocks.
func TestHandMadeDevice(t *testing.T) {
	d := &blockdev.Device{}
	for _, at := range []int{least, -2, -1, 0, 1, 63, most} {
		if e := Format(d, at, nil); e != api.ErrBlock {
			t.Errorf("Format(%d): %v", at, e)
		}
		if e := Store(d, at, nil); e != api.ErrBlock {
			t.Errorf("Store(%d): %v", at, e)
		}
		tells(t, d, at, record{e: api.ErrBlock})
	}
}

// odd are blocks that lie as the place 4 has them, of turns and counts that are seldom or never come to.
func odd() [][]byte {
	var all [][]byte
	for _, s := range []slot{{count: most}, {turn: 1<<32 - 1, count: 3}, {turn: 1 << 31}, {turn: 1<<31 - 1, data: make([]byte, 400)}} {
		b, _ := lay(s, 4)
		all = append(all, b)
	}
	return all
}

// foreign are blocks that the place 4 never has.
func foreign(r *rand.Rand) [][]byte {
	all := [][]byte{full(0)}
	for _, s := range []slot{{count: -1}, {count: least}, {data: make([]byte, 401)}, {data: make([]byte, 480)}} {
		b, _ := lay(s, 4)
		all = append(all, b)
	}
	b, _ := lay(slot{turn: 9, count: 9, data: []byte("elsewhere")}, 5)
	all = append(all, b)
	whole := codec.PutInt(codec.Put32(codec.PutInt(nil, 4), 1), 300)
	for n := range len(whole) + 1 {
		for _, k := range []byte{kind, 0, kind + 1} {
			if n == len(whole) && k == kind {
				continue
			}
			f, _ := codec.PutFrame(nil, api.Frame{Kind: k, Data: whole[:n]})
			all = append(all, append(f, make([]byte, api.BlockSize-len(f))...))
		}
	}
	for range 100 {
		b := full(0)
		r.Read(b[:r.Intn(api.BlockSize+1)])
		all = append(all, b)
	}
	return all
}

// R1: what somebody else has written makes no call panic, and a Format lays a record over it.
func TestForeignBlocks(t *testing.T) {
	r := rand.New(rand.NewSource(1))
	blocks := foreign(r)
	for _, b := range blocks {
		d := made(t, 64)
		put(t, d, 4, b)
		put(t, d, 5, blocks[r.Intn(len(blocks))])
		tells(t, d, 4, none)
		if e := Store(d, 4, []byte("a")); e != api.ErrSuperNone {
			t.Errorf("Store over foreign blocks: %v", e)
		}
	}
	blocks = append(odd(), blocks...)
	for i, b := range blocks {
		for _, x := range [][]byte{full(0), b, blocks[r.Intn(len(blocks))], blocks[i%4]} {
			d := made(t, 64)
			put(t, d, 4, b)
			put(t, d, 5, x)
			c := d.Copy()
			told(c, 4)
			Store(c, 4, []byte("a"))
			told(c, 4)
			format(t, d, 4, "a")
			stays(t, d, 4, record{data: "a"})
			store(t, d, 4, "b")
			stays(t, d, 4, record{data: "b", count: 1})
		}
	}
}

// A block of which one bit is turned is no record's: the other slot tells, or nothing does.
func TestTurnedBits(t *testing.T) {
	d := made(t, 64)
	format(t, d, 4, "first")
	for n := 4; n < 6; n++ {
		b := block(t, d, n)
		if bytes.Equal(b, full(0)) {
			continue
		}
		for i := range 8 * 30 {
			x := bytes.Clone(b)
			x[i/8] ^= 1 << (i % 8)
			c := d.Copy()
			put(t, c, n, x)
			if got := told(c, 4); got != none && got != (record{data: "first"}) {
				t.Errorf("bit %d of block %d: %+v", i, n, got)
			}
		}
	}
}

// R4: what is handed in is neither changed nor kept.
func TestHandedIn(t *testing.T) {
	for _, n := range []int{0, 1, 5, 399, 400, 401} {
		room := []byte(long(1000))
		data := room[10 : 10+n]
		d := made(t, 64)
		for i := range 4 {
			if i == 0 {
				Format(d, 4, data)
			} else {
				Store(d, 4, data)
			}
			if string(room) != long(1000) {
				t.Fatalf("data of %d bytes was changed, or its spare room", n)
			}
			want := told(d, 4)
			for j := range room {
				room[j] = '#'
			}
			tells(t, d, 4, want)
			copy(room, long(1000))
		}
	}
}

// R4: what is handed out is new memory, spare room too.
func TestHandedOut(t *testing.T) {
	d := made(t, 64)
	format(t, d, 4, "none")
	for i, n := range []int{0, 1, 5, 399, 400} {
		store(t, d, 4, long(n))
		a, _, _ := Load(d, 4)
		b, _, _ := Load(d, 4)
		for j := range a[:cap(a)] {
			a[:cap(a)][j] = '#'
		}
		if string(b) != long(n) {
			t.Errorf("two answers of %d bytes share memory", n)
		}
		stays(t, d, 4, record{data: long(n), count: i + 1})
	}
}

// R5: what is told hangs on what was told before, not on how often it is asked, or of which copy.
func TestAskedAgain(t *testing.T) {
	d := made(t, 64)
	format(t, d, 4, "a")
	store(t, d, 4, "b")
	for range 5 {
		tells(t, d, 4, record{data: "b", count: 1})
		c := d.Copy()
		store(t, c, 4, "c")
		tells(t, c, 4, record{data: "c", count: 2})
	}
}
