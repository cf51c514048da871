package super

import (
	"bytes"
	"math/rand"
	"strconv"
	"testing"

	"cartulary/api"
	"cartulary/blockdev"
)

// The chapter's examples.
func TestExamples(t *testing.T) {
	d := made(t, 64)
	tells(t, d, 4, record{"", 0, 30})
	if e := Store(d, 4, []byte("x")); e != 30 {
		t.Errorf("Store: %v", e)
	}
	format(t, d, 4, "a")
	tells(t, d, 4, record{"a", 0, 0})
	store(t, d, 4, "b")
	tells(t, d, 4, record{"b", 1, 0})
	d.Fuse(0)
	if e := Store(d, 4, []byte("c")); e != 2 {
		t.Errorf("Store: %v", e)
	}
	d.Crash(nil)
	tells(t, d, 4, record{"b", 1, 0})
	if e := Format(d, 63, []byte("a")); e != 20 {
		t.Errorf("Format(63): %v", e)
	}
	if e := Format(d, 4, make([]byte, 401)); e != 31 {
		t.Errorf("Format of 401 bytes: %v", e)
	}
}

// The numbers of the errors.
func TestErrorNumbers(t *testing.T) {
	for want, e := range map[int]api.Errno{
		1: Format(nil, 0, nil), 20: Format(made(t, 64), 63, nil), 31: Format(made(t, 64), 0, make([]byte, 401)),
		30: Store(made(t, 64), 0, nil), 2: Store(stopped(made(t, 64)), 0, nil), 0: Format(made(t, 64), 0, nil),
	} {
		if int(e) != want {
			t.Errorf("%d, not %d", e, want)
		}
	}
}

// P3.1, P3.2: data of all lengths up to 400 bytes, and of all bytes.
func TestLengths(t *testing.T) {
	d := made(t, 64)
	for n := range api.MaxSuper + 1 {
		c := d.Copy()
		format(t, c, 4, long(n))
		stays(t, c, 4, record{data: long(n)})
		store(t, c, 4, long(api.MaxSuper-n))
		stays(t, c, 4, record{data: long(api.MaxSuper - n), count: 1})
		store(t, c, 4, long(n))
		tells(t, c, 4, record{data: long(n), count: 2})
	}
	for c := range 256 {
		for _, n := range []int{1, api.MaxSuper} {
			data := string(bytes.Repeat([]byte{byte(c)}, n))
			format(t, d, 4, data)
			tells(t, d, 4, record{data: data})
			store(t, d, 4, data)
			tells(t, d, 4, record{data: data, count: 1})
		}
	}
	if e := Format(d, 4, nil); e != api.OK {
		t.Errorf("Format of no byte: %v", e)
	}
	tells(t, d, 4, record{})
	if e := Store(d, 4, nil); e != api.OK {
		t.Errorf("Store of no byte: %v", e)
	}
	tells(t, d, 4, record{count: 1})
}

// P3.1: more than 400 bytes, and what was laid stays.
func TestTooLong(t *testing.T) {
	for _, n := range []int{401, 402, 495, 512, 513, 2001, 100_000} {
		d := made(t, 64)
		if e := Format(d, 4, []byte(long(n))); e != api.ErrSuperLong {
			t.Errorf("Format of %d bytes: %v", n, e)
		}
		tells(t, d, 4, none)
		format(t, d, 4, "a")
		store(t, d, 4, "b")
		if e := Format(d, 4, []byte(long(n))); e != api.ErrSuperLong {
			t.Errorf("Format of %d bytes: %v", n, e)
		}
		if e := Store(d, 4, []byte(long(n))); e != api.ErrSuperLong {
			t.Errorf("Store of %d bytes: %v", n, e)
		}
		stays(t, d, 4, record{data: "b", count: 1})
	}
}

// P3.1, P3.2: in each place of two blocks there can be a record, in no other one.
func TestPlaces(t *testing.T) {
	for _, blocks := range []int{64, 65, 512} {
		for at := range blocks - 1 {
			if at > 4 && at < blocks-4 && at%37 != 0 {
				continue
			}
			d := made(t, blocks)
			tells(t, d, at, none)
			if e := Store(d, at, []byte("x")); e != api.ErrSuperNone {
				t.Errorf("Store(%d): %v", at, e)
			}
			format(t, d, at, long(400))
			tells(t, d, at, record{data: long(400)})
			store(t, d, at, "b")
			stays(t, d, at, record{data: "b", count: 1})
			store(t, d, at, "c")
			stays(t, d, at, record{data: "c", count: 2})
		}
		d := made(t, blocks)
		for _, at := range []int{least, least + 1, -513, -2, -1, blocks - 1, blocks, blocks + 1, 1 << 32, most - 1, most} {
			if e := Format(d, at, []byte("a")); e != api.ErrBlock {
				t.Errorf("Format(%d): %v", at, e)
			}
			if e := Store(d, at, []byte("a")); e != api.ErrBlock {
				t.Errorf("Store(%d): %v", at, e)
			}
			tells(t, d, at, record{e: api.ErrBlock})
		}
		if d.Ops() != 0 || len(d.Pending()) != 0 {
			t.Errorf("%d operations, pending %v", d.Ops(), d.Pending())
		}
	}
}

// P3.1: which of two errors comes first; and what is refused by its arguments does no operation, so that no fuse burns.
func TestOrderOfErrors(t *testing.T) {
	laid := made(t, 64)
	format(t, laid, 4, "a")
	store(t, laid, 4, "b")
	burnt := laid.Copy()
	burnt.Fuse(0)
	for _, c := range []struct {
		d                   *blockdev.Device
		at, length          int
		format, store, load api.Errno
	}{
		{nil, 4, 0, api.ErrArg, api.ErrArg, api.ErrArg},
		{nil, -1, 401, api.ErrArg, api.ErrArg, api.ErrArg},
		{nil, most, 401, api.ErrArg, api.ErrArg, api.ErrArg},
		{nil, least, 0, api.ErrArg, api.ErrArg, api.ErrArg},
		{laid, -1, 401, api.ErrBlock, api.ErrBlock, api.ErrBlock},
		{laid, 63, 401, api.ErrBlock, api.ErrBlock, api.ErrBlock},
		{stopped(laid.Copy()), -1, 0, api.ErrBlock, api.ErrBlock, api.ErrBlock},
		{stopped(laid.Copy()), 63, 401, api.ErrBlock, api.ErrBlock, api.ErrBlock},
		{burnt, most, 401, api.ErrBlock, api.ErrBlock, api.ErrBlock},
		{laid, 4, 401, api.ErrSuperLong, api.ErrSuperLong, api.OK},
		{laid, 6, 401, api.ErrSuperLong, api.ErrSuperLong, api.ErrSuperNone},
		{stopped(laid.Copy()), 4, 401, api.ErrSuperLong, api.ErrSuperLong, api.ErrDown},
		{stopped(made(t, 64)), 4, 401, api.ErrSuperLong, api.ErrSuperLong, api.ErrDown},
		{burnt, 4, 401, api.ErrSuperLong, api.ErrSuperLong, api.ErrDown},
		{stopped(laid.Copy()), 4, 400, api.ErrDown, api.ErrDown, api.ErrDown},
		{stopped(made(t, 64)), 4, 400, api.ErrDown, api.ErrDown, api.ErrDown},
		{burnt, 4, 0, api.ErrDown, api.ErrDown, api.ErrDown},
		{burnt, 6, 0, api.ErrDown, api.ErrDown, api.ErrDown},
	} {
		refused(t, c.d, c.format, func(d *blockdev.Device) api.Errno { return Format(d, c.at, []byte(long(c.length))) })
		refused(t, c.d, c.store, func(d *blockdev.Device) api.Errno { return Store(d, c.at, []byte(long(c.length))) })
		if c.load == api.OK {
			continue
		}
		refused(t, c.d, c.load, func(d *blockdev.Device) api.Errno {
			b, n, e := Load(d, c.at)
			if len(b) != 0 || n != 0 {
				t.Errorf("Load(%d): %q, %d beside %v", c.at, b, n, e)
			}
			return e
		})
	}
}

// refused does what is to answer an error, on a copy, and asks whether a device that was up, and was asked nothing, is as it was.
func refused(t *testing.T, d *blockdev.Device, want api.Errno, do func(*blockdev.Device) api.Errno) {
	t.Helper()
	c := d.Copy()
	if e := do(c); e != want {
		t.Errorf("%v, not %v", e, want)
	}
	if want == api.ErrSuperNone || want == api.ErrDown {
		return
	}
	if c.Ops() != d.Ops() || c.Down() != d.Down() || len(c.Pending()) != len(d.Pending()) {
		t.Errorf("%v has done something", want)
	}
}

// P3.2: nothing is laid in blocks of noughts, in other blocks, and beside what is laid.
func TestNothingLaid(t *testing.T) {
	d := made(t, 64)
	for c := range 256 {
		put(t, d, 4, full(byte(c)))
		put(t, d, 5, full(byte(255-c)))
		tells(t, d, 4, none)
	}
	format(t, d, 4, long(400))
	for i := range 6 {
		for _, at := range []int{0, 2, 3, 5, 6, 62} {
			tells(t, d, at, none)
			if e := Store(d, at, []byte("x")); e != api.ErrSuperNone {
				t.Errorf("Store(%d): %v", at, e)
			}
		}
		tells(t, d, 4, record{data: long(400 - i), count: i})
		store(t, d, 4, long(399-i))
	}
	put(t, d, 4, full(0))
	put(t, d, 5, full(0))
	tells(t, d, 4, none)
	if e := Store(d, 4, []byte("x")); e != api.ErrSuperNone {
		t.Errorf("Store: %v", e)
	}
	if d.Flush(); !bytes.Equal(block(t, d, 4), full(0)) || !bytes.Equal(block(t, d, 5), full(0)) {
		t.Error("a Store of nothing that is laid has written")
	}
}

// P3.1: each Store counts one, whatever it stores; a Format begins at 0, over a record of any count.
func TestCounts(t *testing.T) {
	d := made(t, 64)
	for _, n := range []int{0, 1, 2, 3, 7, 130, 300, 0, 9000, 0} {
		format(t, d, 4, "first")
		stays(t, d, 4, record{data: "first"})
		last := record{data: "first"}
		for i := range n {
			last = record{data: []string{"same", "same", "", long(400), "first", strconv.Itoa(i)}[i%6], count: i + 1}
			store(t, d, 4, last.data)
			tells(t, d, 4, last)
		}
		stays(t, d, 4, last)
	}
	for range 5 {
		format(t, d, 4, "first")
		tells(t, d, 4, record{data: "first"})
	}
}

// P3.1: what was laid is there whatever a crash picks, and whatever others have written and not flushed.
func TestDurable(t *testing.T) {
	d := made(t, 64)
	for i := range 7 {
		want := record{data: long(i), count: i}
		put(t, d, 3, full(byte(i)))
		put(t, d, 6, full(byte(i)))
		if i == 0 {
			format(t, d, 4, want.data)
		} else {
			store(t, d, 4, want.data)
		}
		put(t, d, 2, full(byte(i)))
		put(t, d, 7, full(byte(i)))
		stays(t, d, 4, want)
	}
	put(t, d, 4, full('x'))
	put(t, d, 5, full('x'))
	format(t, d, 4, "anew") // what was written into the blocks and not flushed does not come up again
	stays(t, d, 4, record{data: "anew"})
	store(t, d, 4, "b")
	stays(t, d, 4, record{data: "b", count: 1})
}

// The blocks at and at + 1 alone are written.
func TestBlocksAlone(t *testing.T) {
	for _, at := range []int{0, 1, 30, 62} {
		d := made(t, 64)
		for n := range 64 {
			put(t, d, n, full(byte(n+1)))
		}
		d.Flush()
		for i := range 6 {
			if i%4 == 0 {
				format(t, d, at, long(400))
			} else {
				store(t, d, at, long(400-i))
			}
			told(d, at)
			for n := range 64 {
				if n != at && n != at+1 && !bytes.Equal(block(t, d, n), full(byte(n+1))) {
					t.Errorf("a record of %d has changed the block %d", at, n)
				}
			}
		}
	}
}

// Records in places of their own, one beside the other, are held against what was told of each.
func TestManyRecords(t *testing.T) {
	r := rand.New(rand.NewSource(3))
	d := made(t, 64)
	want := make([]record, 32)
	for i := range want {
		want[i] = none
	}
	for range 5000 {
		i, data := r.Intn(32), long(r.Intn(401))
		at := 2 * i
		switch r.Intn(8) {
		case 0:
			format(t, d, at, data)
			want[i] = record{data: data}
		case 1:
			d.Crash([]int{r.Intn(9), r.Intn(9)})
		default:
			e := Store(d, at, []byte(data))
			if e != want[i].e {
				t.Fatalf("Store(%d): %v, not %v", at, e, want[i].e)
			}
			if e == api.OK {
				want[i] = record{data: data, count: want[i].count + 1}
			}
		}
		for _, j := range []int{i, r.Intn(32), max(i-1, 0), min(i+1, 31)} {
			tells(t, d, 2*j, want[j])
		}
	}
	for i := range want {
		tells(t, d, 2*i, want[i])
	}
}

// The turns of the slots wrap round, and the record goes on.
func TestTurnsWrapRound(t *testing.T) {
	for _, turn := range []uint32{0, 1<<31 - 3, 1<<31 - 1, 1 << 31, 1<<32 - 3, 1<<32 - 1} {
		for _, at := range []int{4, 62} {
			d := made(t, 64)
			b, _ := lay(slot{turn: turn, count: 5, data: []byte("a")}, at)
			put(t, d, at+1, b)
			tells(t, d, at, record{data: "a", count: 5})
			for i := range 6 {
				store(t, d, at, long(i))
				stays(t, d, at, record{data: long(i), count: i + 6})
			}
			format(t, d, at, "anew")
			stays(t, d, at, record{data: "anew"})
		}
	}
}
