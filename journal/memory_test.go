package journal

import (
	"bytes"
	"math/rand"
	"testing"

	"cartulary/api"
	"cartulary/blockdev"
	"cartulary/codec"
	"cartulary/super"
)

// R1: on no device there is no log, and nothing is done.
func TestNoDevice(t *testing.T) {
	if e := Format(nil); e != api.ErrArg {
		t.Errorf("Format: %v", e)
	}
	if l, e := Open(nil); l != nil || e != api.ErrArg {
		t.Errorf("Open: %v", e)
	}
}

// R1: on no log nothing is done, and that comes ahead of all else.
func TestNoLog(t *testing.T) {
	var l *Log
	if l.Size() != 0 {
		t.Errorf("Size: %d", l.Size())
	}
	for _, n := range []int{least, -1, 0, 43, 44, most} {
		refused(t, l, n, api.ErrArg)
		for _, data := range [][]byte{nil, full('a'), {1}} {
			if e := l.Put(n, data); e != api.ErrArg {
				t.Errorf("Put(%d): %v", n, e)
			}
			if e := l.Commit([]api.Write{{Block: n, Data: data}}); e != api.ErrArg {
				t.Errorf("Commit(%d): %v", n, e)
			}
		}
	}
	for _, k := range []int{0, 1, 16, 17} {
		if e := l.Commit(make([]api.Write, k)); e != api.ErrArg {
			t.Errorf("Commit of %d: %v", k, e)
		}
	}
}

// R1: a log that is made by hand offers no block and has no device.
func TestHandMadeLog(t *testing.T) {
	l := &Log{}
	if l.Size() != 0 {
		t.Errorf("Size: %d", l.Size())
	}
	for _, n := range []int{least, -1, 0, 43, 44, most} {
		refused(t, l, n, api.ErrLogBlock)
		if e := l.Put(n, full('a')); e != api.ErrLogBlock {
			t.Errorf("Put(%d): %v", n, e)
		}
		if e := l.Commit([]api.Write{{Block: n, Data: full('a')}}); e != api.ErrLogBlock {
			t.Errorf("Commit(%d): %v", n, e)
		}
	}
	if e := l.Commit(make([]api.Write, 17)); e != api.ErrLogMany {
		t.Errorf("Commit of 17: %v", e)
	}
	if e := l.Commit(nil); e != api.ErrArg {
		t.Errorf("Commit of none: %v", e)
	}
}

// R1: a device that is made by hand has no blocks.
func TestHandMadeDevice(t *testing.T) {
	d := &blockdev.Device{}
	if e := Format(d); e != api.ErrSize {
		t.Errorf("Format: %v", e)
	}
	if l, e := Open(d); l != nil || e != api.ErrLogNone {
		t.Errorf("Open: %v", e)
	}
}

// strange are records that no log of 64 blocks has.
func strange(r *rand.Rand) [][]byte {
	whole := record([]part{{block: 3}, {block: 43}})
	all := [][]byte{nil, []byte("log"), codec.PutInt(codec.PutText(nil, "lot"), 0), append(bytes.Clone(whole), 0), codec.PutInt(codec.PutText(nil, "logs"), 0)}
	for n := range whole {
		all = append(all, whole[:n])
	}
	for _, n := range []int{-1, 17, 400, least, most} {
		b := codec.PutInt(codec.PutText(nil, mark), n)
		for range 17 {
			b = codec.PutInt(b, 1)
		}
		all = append(all, b)
	}
	for _, n := range []int{-1, 44, 64, least, most} {
		all = append(all, record([]part{{block: n}}), record([]part{{block: 0}, {block: n}}))
	}
	for range 100 {
		b := make([]byte, r.Intn(400))
		r.Read(b)
		all = append(all, b)
	}
	return all
}

// R1: what somebody else has written makes no call panic; another record is no log, and Format lays one over it.
func TestStrangeRecords(t *testing.T) {
	for _, b := range strange(rand.New(rand.NewSource(1))) {
		d := made(t, 64)
		if e := super.Format(d, recordAt, b); e != api.OK {
			t.Fatalf("Format of a record: %v", e)
		}
		if l, e := Open(d); l != nil || e != api.ErrLogNone {
			t.Errorf("Open where the record is %q: %v", b, e)
		}
		if e := Format(d); e != api.OK {
			t.Errorf("Format: %v", e)
		}
		stays(t, d, noughts(44), 1)
	}
}

// R1: bytes that somebody else has written, under an open log too.
func TestStrangeBlocks(t *testing.T) {
	r := rand.New(rand.NewSource(2))
	for range 200 {
		d := laid(t, 64)
		l := open(t, d)
		commit(t, l, one{0, 'a'})
		for range r.Intn(20) {
			b := make([]byte, api.BlockSize)
			r.Read(b[:r.Intn(api.BlockSize+1)])
			d.Write(r.Intn(30), b)
		}
		l.Read(r.Intn(44))
		l.Put(r.Intn(44), full('p'))
		l.Commit(writes([]one{{1, 'b'}, {2, 'c'}}))
		if m, e := Open(d); (m == nil) != (e != api.OK) {
			t.Errorf("Open: %v", e)
		}
	}
}

// R4: what is handed in is neither changed nor kept, its spare room neither.
func TestHandedIn(t *testing.T) {
	d := laid(t, 64)
	l := open(t, d)
	room := bytes.Repeat([]byte{'r'}, 2000)
	was := bytes.Clone(room)
	for _, n := range []int{0, 511, 512, 513} {
		data := room[100 : 100+n]
		w := make([]api.Write, 2, 20)
		w[0], w[1] = api.Write{Block: 1, Data: data}, api.Write{Block: 2, Data: data}
		w[:20][19] = api.Write{Block: 77}
		for range 3 {
			l.Put(0, data)
			l.Commit(w)
			if !bytes.Equal(room, was) {
				t.Fatalf("data of %d bytes was changed, or its spare room", n)
			}
			if len(w[0].Data) != n || w[0].Block != 1 || w[1].Block != 2 || &w[0].Data[:1][0] != &data[:1][0] || w[:20][2].Data != nil || w[:20][19].Block != 77 {
				t.Fatal("what was to be committed was changed")
			}
		}
		if n != 512 {
			continue
		}
		for i := range room {
			room[i] = '#'
		}
		w[0].Block = 9
		tells(t, l, with(noughts(44), one{0, 'r'}, one{1, 'r'}, one{2, 'r'}))
		commit(t, l)
		d.Crash(nil)
		tells(t, open(t, d), with(noughts(44), one{0, 'r'}, one{1, 'r'}, one{2, 'r'}))
		copy(room, was)
		l = open(t, d)
	}
}

// R4: what is handed out is new memory, spare room too.
func TestHandedOut(t *testing.T) {
	d := laid(t, 64)
	l := open(t, d)
	commit(t, l, one{0, 'a'})
	put(t, l, 1, 'b')
	for n, c := range []byte("ab\x00") {
		x, _ := l.Read(n)
		y, _ := l.Read(n)
		for i := range x[:cap(x)] {
			x[:cap(x)][i] = '#'
		}
		if !bytes.Equal(y, full(c)) {
			t.Errorf("two answers of block %d share memory", n)
		}
	}
	tells(t, l, with(noughts(44), one{0, 'a'}, one{1, 'b'}))
}

// R4, R5: logs on devices that are copies of one another have nothing in common.
func TestCopies(t *testing.T) {
	d := laid(t, 64)
	commit(t, open(t, d), one{0, 'a'})
	c := d.Copy()
	l, m := open(t, d), open(t, c)
	for i := range 5 {
		commit(t, l, one{1, byte('l' + i)}, one{2, 'l'})
		commit(t, m, one{1, byte('m' + i)}, one{3, 'm'})
		tells(t, l, with(noughts(44), one{0, 'a'}, one{1, byte('l' + i)}, one{2, 'l'}))
		tells(t, m, with(noughts(44), one{0, 'a'}, one{1, byte('m' + i)}, one{3, 'm'}))
	}
	stopped(d)
	l.Read(0)
	refused(t, l, 0, api.ErrDown)
	tells(t, m, with(noughts(44), one{0, 'a'}, one{1, byte('m' + 4)}, one{3, 'm'}))
}
