package journal

import (
	"bytes"
	"math/rand"
	"slices"
	"testing"

	"cartulary/api"
	"cartulary/blockdev"
)

// The chapter's examples.
func TestExamples(t *testing.T) {
	d := made(t, 64)
	if l, e := Open(d); l != nil || e != 41 {
		t.Errorf("Open of a new device: %v", e)
	}
	if e := Format(d); e != 0 {
		t.Errorf("Format: %v", e)
	}
	l := open(t, d)
	if l.Size() != 44 {
		t.Errorf("Size: %d", l.Size())
	}
	put(t, l, 43, 'a')
	if b, e := l.Read(43); !bytes.Equal(b, full('a')) || e != 0 {
		t.Errorf("Read(43): %v", e)
	}
	refused(t, l, 44, 42)
	if e := l.Put(0, []byte{1}); e != 21 {
		t.Errorf("Put of one byte: %v", e)
	}
	if e := l.Commit(make([]api.Write, 17)); e != 43 {
		t.Errorf("Commit of 17: %v", e)
	}
	commit(t, l, one{0, 'a'}, one{1, 'b'}, one{0, 'c'})
	d.Crash(nil)
	tells(t, open(t, d), with(noughts(44), one{0, 'c'}, one{1, 'b'}, one{43, 'a'}))
	was, is := with(noughts(44), one{0, 'c'}, one{1, 'b'}, one{43, 'a'}), with(noughts(44), one{0, 'b'}, one{1, 'a'}, one{43, 'a'})
	for k := range 60 {
		c := d.Copy()
		l := open(t, c)
		c.Fuse(k)
		e := l.Commit(writes([]one{{0, 'b'}, {1, 'a'}}))
		c.Crash(nil)
		if got := told(t, c); got != is && (got != was || e == api.OK) {
			t.Errorf("stopped at %d, %v: %q", k, e, got)
		}
	}
}

// The numbers of the errors.
func TestErrorNumbers(t *testing.T) {
	_, none := Open(made(t, 64))
	l := open(t, laid(t, 64))
	for want, e := range map[int]api.Errno{
		0: l.Put(0, full('a')), 1: Format(nil), 2: Format(stopped(made(t, 64))), 21: l.Put(0, nil),
		41: none, 42: l.Put(44, full('a')), 43: l.Commit(make([]api.Write, 17)),
	} {
		if int(e) != want {
			t.Errorf("%d, not %d", e, want)
		}
	}
}

// P4.1: devices of the least size, of the greatest, and between; all blocks are offered, and none of them is another one.
func TestSizes(t *testing.T) {
	for _, blocks := range []int{64, 65, 300, 511, 512} {
		d := made(t, blocks)
		if l, e := Open(d); l != nil || e != api.ErrLogNone {
			t.Errorf("Open of a new device of %d: %v", blocks, e)
		}
		if e := Format(d); e != api.OK || len(d.Pending()) != 0 {
			t.Fatalf("Format of %d: %v, pending %v", blocks, e, d.Pending())
		}
		l := open(t, d)
		if l.Size() != blocks-20 {
			t.Errorf("Size of %d: %d", blocks, l.Size())
		}
		tells(t, l, noughts(blocks-20))
		want := noughts(blocks - 20)
		for n := range l.Size() {
			c := byte(n*7 + 1)
			if n%3 == 0 {
				commit(t, l, one{n, c}, one{l.Size() - 1 - n, '!'})
				want = with(want, one{n, c}, one{l.Size() - 1 - n, '!'})
			} else {
				put(t, l, n, c)
				want = with(want, one{n, c})
			}
		}
		tells(t, l, want)
		commit(t, l)
		d.Crash(nil)
		tells(t, open(t, d), want)
		if e := l.Put(blocks-20, full('a')); e != api.ErrLogBlock {
			t.Errorf("Put(%d): %v", blocks-20, e)
		}
	}
}

// P4.2, P4.3: blocks and lengths at the edges, and which of two errors comes first. What is refused does no operation and changes nothing.
func TestBlocks(t *testing.T) {
	for _, blocks := range []int{64, 512} {
		d := laid(t, blocks)
		l := open(t, d)
		put(t, l, 0, 'a')
		commit(t, l, one{blocks - 21, 'b'})
		put(t, l, 1, 'c')
		want, ops := look(t, l), 0
		for _, n := range []int{least, least + 1, -blocks, -21, -20, -2, -1, 0, 1, blocks - 22, blocks - 21, blocks - 20, blocks - 19, blocks, 1 << 32, most - 20, most - 1, most} {
			there := n >= 0 && n < blocks-20
			if !there {
				refused(t, l, n, api.ErrLogBlock)
			}
			for _, length := range []int{0, 1, 511, 512, 513, 1024, 100_000} {
				e := api.OK
				switch {
				case !there:
					e = api.ErrLogBlock
				case length != 512:
					e = api.ErrSize
				default:
					continue
				}
				ops = d.Ops()
				if got := l.Put(n, make([]byte, length)); got != e {
					t.Errorf("Put(%d, %d bytes): %v, not %v", n, length, got, e)
				}
				for _, w := range wrongly(api.Write{Block: n, Data: make([]byte, length)}) {
					if got := l.Commit(w); got != e {
						t.Errorf("Commit with (%d, %d bytes): %v, not %v", n, length, got, e)
					}
				}
				if d.Ops() != ops || !slices.Equal(d.Pending(), []int{firstAt + 1}) {
					t.Errorf("%d operations, pending %v", d.Ops()-ops, d.Pending())
				}
			}
		}
		tells(t, l, want)
	}
}

// wrongly are commits of which one block is the first that is wrong.
func wrongly(x api.Write) [][]api.Write {
	good, block, size := api.Write{Block: 3, Data: full('x')}, api.Write{Block: -1, Data: full('y')}, api.Write{Block: 4}
	many := slices.Repeat([]api.Write{good}, 15)
	return [][]api.Write{
		{x}, {x, good}, {good, x}, {good, x, good}, {x, block}, {x, size}, {x, size, block}, {good, x, block, size},
		append(slices.Clone(many), x), append([]api.Write{x}, many...), slices.Repeat([]api.Write{x}, 16),
	}
}

// P4.3: more than 16 blocks are too many, whatever they are, also where fewer are named; that comes ahead of what is wrong with one.
func TestTooMany(t *testing.T) {
	d := laid(t, 64)
	l := open(t, d)
	put(t, l, 5, 'p')
	ops := d.Ops()
	for _, n := range []int{17, 18, 44, 1000} {
		for _, x := range []api.Write{{}, {Block: 3, Data: full('x')}, {Block: -1, Data: full('x')}, {Block: 44}, {Block: 3, Data: make([]byte, 511)}} {
			w := slices.Repeat([]api.Write{x}, n)
			if e := l.Commit(w); e != api.ErrLogMany {
				t.Errorf("Commit of %d: %v", n, e)
			}
			for i := range w {
				w[i] = api.Write{Block: i, Data: full('y')}
			}
			w[0] = x
			if e := l.Commit(w); e != api.ErrLogMany {
				t.Errorf("Commit of %d: %v", n, e)
			}
		}
	}
	if d.Ops() != ops {
		t.Errorf("%d operations", d.Ops()-ops)
	}
	tells(t, l, with(noughts(44), one{5, 'p'}))
}

// P4.3: commits of none to 16 blocks, in any order, and durable.
func TestCommits(t *testing.T) {
	d := laid(t, 64)
	l := open(t, d)
	want := noughts(44)
	for n := range 17 {
		for _, order := range [][]int{up(n), down(n)} {
			var ones []one
			for _, i := range order {
				ones = append(ones, one{(i*5 + n) % 44, byte('a' + n + i)})
			}
			commit(t, l, ones...)
			want = with(want, ones...)
			tells(t, l, want)
			for _, x := range crashes(d) {
				stays(t, x, want, 1)
			}
		}
	}
	for _, n := range []int{0, 43} {
		commit(t, l, one{n, 'Z'})
		want = with(want, one{n, 'Z'})
		tells(t, l, want)
	}
	if e := l.Commit([]api.Write{}); e != api.OK {
		t.Errorf("Commit of none: %v", e)
	}
	if e := l.Commit(nil); e != api.OK {
		t.Errorf("Commit of nil: %v", e)
	}
	tells(t, l, want)
}

// up are the numbers from 0 on.
func up(n int) []int {
	var all []int
	for i := range n {
		all = append(all, i)
	}
	return all
}

// down are these, falling.
func down(n int) []int {
	all := up(n)
	slices.Reverse(all)
	return all
}

// P4.3: of a block that is named twice, or oftener, the last one holds.
func TestNamedTwice(t *testing.T) {
	for _, ones := range [][]one{
		{{0, 'a'}, {0, 'b'}},
		{{0, 'b'}, {0, 'a'}},
		{{0, 'a'}, {1, 'b'}, {0, 'c'}},
		{{7, 'a'}, {0, 'x'}, {7, 'b'}, {1, 'x'}, {7, 'c'}},
		{{7, 'a'}, {7, 'b'}, {7, 'a'}},
		{{43, 'a'}, {43, 0}},
	} {
		d := laid(t, 64)
		l := open(t, d)
		commit(t, l, ones...)
		tells(t, l, with(noughts(44), ones...))
		d.Crash(nil)
		tells(t, open(t, d), with(noughts(44), ones...))
	}
	var often []one
	for i := range 16 {
		often = append(often, one{9, byte('a' + i)})
	}
	l := open(t, laid(t, 64))
	commit(t, l, often...)
	tells(t, l, with(noughts(44), one{9, 'p'}))
}

// P4.2: a block is all of its bytes.
func TestBytes(t *testing.T) {
	r := rand.New(rand.NewSource(1))
	d := laid(t, 64)
	l := open(t, d)
	want := map[int][]byte{}
	for range 100 {
		var w []api.Write
		for range r.Intn(17) {
			b := make([]byte, api.BlockSize)
			r.Read(b)
			w = append(w, api.Write{Block: r.Intn(44), Data: b})
		}
		for _, x := range w {
			want[x.Block] = x.Data
		}
		if e := l.Commit(w); e != api.OK {
			t.Fatalf("Commit: %v", e)
		}
		n, b := r.Intn(44), make([]byte, api.BlockSize)
		r.Read(b)
		if e := l.Put(n, b); e != api.OK {
			t.Fatalf("Put: %v", e)
		}
		want[n] = b
		for n, b := range want {
			if got, e := l.Read(n); !bytes.Equal(got, b) || e != api.OK {
				t.Fatalf("Read(%d): %v", n, e)
			}
		}
	}
}

// P4.1: Format lays noughts over whatever was there, and that is durable.
func TestFormatAnew(t *testing.T) {
	d := made(t, 64)
	for n := range 64 {
		d.Write(n, full('j'))
	}
	if l, e := Open(d); l != nil || e != api.ErrLogNone {
		t.Errorf("Open of a device of others: %v", e)
	}
	for range 3 {
		if e := Format(d); e != api.OK {
			t.Fatalf("Format: %v", e)
		}
		for _, x := range crashes(d) {
			stays(t, x, noughts(44), 1)
		}
		l := open(t, d)
		tells(t, l, noughts(44))
		for n := range 44 {
			put(t, l, n, 'p')
		}
		commit(t, l, one{0, 'c'}, one{43, 'c'})
		put(t, l, 3, 'q')
	}
}

// P4.1: a Format where a commit waits, which is not to come behind it.
func TestFormatOverWaiting(t *testing.T) {
	d := laid(t, 64)
	left, _ := stops(t, d, func(d *blockdev.Device) api.Errno {
		l, e := Open(d)
		if e != api.OK {
			return e
		}
		return l.Commit(writes([]one{{0, 'a'}, {43, 'b'}}))
	})
	for _, x := range left {
		for _, y := range crashes(x) {
			if e := Format(y); e != api.OK {
				t.Fatalf("Format: %v", e)
			}
			stays(t, y, noughts(44), 1)
		}
	}
}

// P4.1: where there is no log, Open changes nothing.
func TestOpenOfNone(t *testing.T) {
	d := made(t, 64)
	d.Write(30, full('x'))
	if l, e := Open(d); l != nil || e != api.ErrLogNone || !slices.Equal(d.Pending(), []int{30}) {
		t.Errorf("Open: %v, pending %v", e, d.Pending())
	}
}

// P4.1: a log is opened as often as is asked, and tells the same.
func TestOpenAgain(t *testing.T) {
	d := laid(t, 64)
	l := open(t, d)
	commit(t, l, one{3, 'c'}, one{4, 'c'})
	put(t, l, 4, 'p')
	put(t, l, 5, 'p')
	want := with(noughts(44), one{3, 'c'}, one{4, 'p'}, one{5, 'p'})
	for range 5 {
		tells(t, open(t, d), want)
	}
	d.Crash(nil)
	tells(t, open(t, d), want) // it was told of by an Open
}
