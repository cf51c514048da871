package segment

import (
	"fmt"
	"slices"
	"testing"
	"time"

	"cartulary/api"
)

// needs are Appends behind others, and how many blocks they need.
func needs() []struct {
	before, f []api.Frame
	blocks    int
	files     int
} {
	return []struct {
		before, f []api.Frame
		blocks    int
		files     int
	}{
		{nil, frames(0), 1, 1},
		{nil, []api.Frame{longFrame(1, 512)}, 1, 1},
		{nil, []api.Frame{longFrame(1, 513)}, 2, 1},
		{nil, frames(2000), 4, 1},
		{nil, frames(2000, 2000, 2000, 2000, 2000), 16 + 4, 2},
		{[]api.Frame{longFrame(1, 506)}, frames(0), 0, 0},
		{[]api.Frame{longFrame(1, 506)}, frames(1), 1, 0},
		{[]api.Frame{longFrame(1, 506)}, frames(0, 0), 1, 0},
		{frames(2000, 2000, 2000, 2000), []api.Frame{longFrame(1, 164)}, 0, 0},
		{frames(2000, 2000, 2000, 2000), []api.Frame{longFrame(1, 165)}, 1, 1},
		{frames(2000, 2000, 2000), frames(2000, 2000), 4 + 4, 1},
	}
}

// P9.3: a file system that has just the room that is needed, and one block less: then nothing has changed.
func TestJustTheRoom(t *testing.T) {
	for i, c := range needs() {
		for _, lack := range []int{0, 1} {
			if c.blocks < lack {
				continue
			}
			w := begin(t, 100)
			w.append(c.before...)
			w.leave(c.blocks - lack)
			w.sync()
			free := w.v.Free()
			got := w.append(c.f...)
			if lack == 0 && (got != api.OK || w.v.Free() != 0) || lack == 1 && (got != api.ErrSegSpace || w.v.Free() != free) {
				t.Errorf("case %d, %d lacking: %v, %d free", i, lack, got, w.v.Free())
			}
			w.is()
			w.reopen()
			w.is()
			if got == api.OK {
				continue
			}
			w.remove("fill0") // when there is room it goes well
			w.sync()
			if e := w.append(c.f...); e != api.OK {
				t.Errorf("case %d: %v", i, e)
			}
			w.is()
		}
	}
}

// P9.3: a new segment is a file more, of which there may be 64.
func TestJustTheFiles(t *testing.T) {
	for i, c := range needs() {
		for _, lack := range []int{0, 1} {
			if c.files < lack {
				continue
			}
			w := begin(t, 200)
			w.append(c.before...)
			for n := len(w.sizes); n < 64-c.files+lack; n++ {
				w.put(fmt.Sprint("o", n), "")
			}
			w.sync()
			want := []api.Errno{api.OK, api.ErrSegSpace}[lack]
			if got := w.append(c.f...); got != want {
				t.Errorf("case %d, %d lacking: %v", i, lack, got)
			}
			w.is()
			w.reopen()
			w.is()
		}
	}
}

// P9.3: what others gave back is room behind a Sync alone; a refused Append undoes what they did since the last one.
func TestOthersRoom(t *testing.T) {
	w := begin(t, 64)
	w.append(frame(1, 400))
	w.leave(2)
	w.sync()
	w.put("o", text(1, 600))
	if e := w.append(frame(1, 700)); e != api.ErrSegSpace {
		t.Errorf("Append: %v", e)
	}
	w.is() // o is gone
	w.remove("fill0")
	if e := w.append(frame(1, 2000)); e != api.ErrSegSpace {
		t.Errorf("Append: %v", e)
	}
	w.is() // fill0 is there again
	w.remove("fill0")
	w.sync()
	if e := w.append(frame(1, 2000)); e != api.OK {
		t.Errorf("Append: %v", e)
	}
	w.is()
	w.put("o", text(2, 600))
	if e := w.append(frame(1, 20)); e != api.OK {
		t.Errorf("Append: %v", e)
	}
	w.reopen() // what is synced with the frames lasts
	w.is()
	w.put("p", text(2, 600))
	w.reset()
	w.is()
}

// P9.3, R3: refused Appends, one behind the other, of all kinds, change nothing of the log, of its files and of others', and what is behind a crash neither.
func TestRefused(t *testing.T) {
	w := begin(t, 64)
	w.put("o", text(1, 1000))
	w.append(frames(2000, 0, 300)...)
	w.leave(1)
	w.sync()
	want, free := w.want(), w.v.Free()
	for _, f := range [][]api.Frame{
		frames(2000), frames(0, 0, 0, 2000), slices.Repeat(frames(700), 5), slices.Repeat(frames(2000), 100), frames(2001), frames(1, 2001),
	} {
		for range 3 {
			if e := w.append(f...); e == api.OK {
				t.Errorf("%d frames: OK", len(f))
			}
			if got := tell(t, w.v, w.l); got != want || w.v.Free() != free {
				t.Fatalf("%s, %d free", brief(got), w.v.Free())
			}
		}
		if got := told(t, w.d); got != want {
			t.Fatalf("behind a crash: %s", brief(got))
		}
	}
	w.reopen()
	w.is()
	if e := w.append(frame(1, 200)); e != api.OK { // the room that is there is there still
		t.Errorf("Append: %v", e)
	}
	w.is()
}

// An Append of far more than there is room for is refused without laying it all.
func TestFarTooMuch(t *testing.T) {
	w := begin(t, 512)
	w.append(frames(7)...)
	begun := time.Now()
	if e := w.l.Append(slices.Repeat(frames(2000), 1<<20)); e != api.ErrSegSpace {
		t.Errorf("Append: %v", e)
	}
	if took := time.Since(begun); took > 20*time.Second {
		t.Errorf("it took %v", took)
	}
	w.is()
}

// P9.1: a torn segment on a file system that has just the room that is needed to lay it anew, and one block less: then nothing has changed.
func TestRoomToMend(t *testing.T) {
	for _, read := range [][]api.Frame{nil, frames(0), {longFrame(1, 512)}, {longFrame(1, 513)}, frames(2000, 2000)} {
		for _, behind := range []int{0, 2} {
			for _, lack := range []int{0, 1} {
				need := counted(len(bytesOf(read...)))
				if need < lack {
					continue
				}
				d := laid(t, 100)
				v := mount(t, d)
				put(t, v, "seg.0", bytesOf(read...)+text(1, 900))
				for i := range behind { // what they have is free behind the next Sync alone
					put(t, v, fmt.Sprint("seg.", i+1), bytesOf(frames(1000)...))
				}
				put(t, v, "o", "others")
				leave(t, v, need-lack)
				sync(t, v)
				was, free := tellFiles(content(t, v)), v.Free()
				l, e := Open(v)
				if lack == 0 {
					if e != api.OK || l.Len() != len(read) || !slices.Equal(l.Segments(), []int{len(bytesOf(read...))}) {
						t.Errorf("%d blocks: %v", need, e)
					}
					continue
				}
				if l != nil || e != api.ErrSegSpace {
					t.Errorf("%d blocks, one lacking: %v", need, e)
				}
				if got := tellFiles(content(t, v)); got != was || v.Free() != free {
					t.Errorf("%d blocks, one lacking: %d free, %s", need, v.Free(), brief(got))
				}
				d.Crash(nil)
				v = mount(t, d)
				if got := tellFiles(content(t, v)); got != was || v.Free() != free {
					t.Errorf("behind a crash: %d free, %s", v.Free(), brief(got))
				}
				v.Remove("fill0") // when there is room it goes well
				sync(t, v)
				if l, e := Open(v); e != api.OK || l.Len() != len(read) {
					t.Errorf("Open: %v", e)
				}
			}
		}
	}
}

// P9.1: what is removed goes ahead of what is laid anew: what the segments have got since the last Sync is room for that, and so is their place among 64 files.
func TestRoomOfTheRemoved(t *testing.T) {
	v := empty(t, 64) // a torn segment that was not synced has its own room
	put(t, v, "seg.0", bytesOf(frames(2000, 2000)...)+"torn")
	leave(t, v, 0)
	if l, e := Open(v); e != api.OK || l.Len() != 2 {
		t.Errorf("Open: %v", e)
	}

	v = empty(t, 64) // and one that was that of those behind it which were not
	put(t, v, "seg.0", bytesOf(frames(2000, 2000)...)+"torn")
	sync(t, v)
	put(t, v, "seg.1", text(1, 512*3))
	put(t, v, "seg.2", text(1, 512*5))
	leave(t, v, 0)
	if l, e := Open(v); e != api.OK || l.Len() != 2 || v.Free() != 3+5 {
		t.Errorf("Open: %v, %d free", e, v.Free())
	}

	v = empty(t, 64) // a block less
	put(t, v, "seg.0", bytesOf(frames(2000, 2000)...)+"torn")
	sync(t, v)
	put(t, v, "seg.1", text(1, 512*3))
	put(t, v, "seg.2", text(1, 512*4))
	leave(t, v, 0)
	if l, e := Open(v); l != nil || e != api.ErrSegSpace || !slices.Equal(v.List(), []string{"seg.0"}) {
		t.Errorf("Open: %v, %q", e, v.List())
	}

	v = empty(t, 64)
	put(t, v, "seg.0", "torn")
	for i := range 63 {
		put(t, v, fmt.Sprint("o", i), "")
	}
	sync(t, v)
	if l, e := Open(v); e != api.OK || !slices.Equal(l.Segments(), []int{0}) || len(v.List()) != 64 {
		t.Errorf("Open: %v, %q", e, v.List())
	}
}
