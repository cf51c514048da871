package segment

import (
	"fmt"
	"slices"
	"strings"
	"testing"

	"cartulary/api"
	"cartulary/fsdir"
)

// The chapter's examples.
func TestExamples(t *testing.T) {
	l := open(t, empty(t, 64))
	if l.Len() != 0 || len(l.Segments()) != 0 {
		t.Errorf("%d frames, %v", l.Len(), l.Segments())
	}
	if e := l.Append([]api.Frame{{Kind: 1, Data: []byte("a")}, {Kind: 2, Data: []byte("b")}}); e != api.OK {
		t.Errorf("Append: %v", e)
	}
	if l.Len() != 2 || !slices.Equal(l.Segments(), []int{14}) {
		t.Errorf("%d frames, %v", l.Len(), l.Segments())
	}
	if e := l.Append([]api.Frame{{Data: make([]byte, 2001)}}); e != api.ErrSegLong {
		t.Errorf("Append: %v", e)
	}

	v := empty(t, 64)
	one := bytesOf(frame(1, 3))
	put(t, v, "seg.0", one+"\x07")
	put(t, v, "seg.1", "")
	l = open(t, v)
	if l.Len() != 1 || !slices.Equal(l.Segments(), []int{len(one)}) || !slices.Equal(v.List(), []string{"seg.0"}) {
		t.Errorf("%d frames, %v, %q", l.Len(), l.Segments(), v.List())
	}
}

// The errors' numbers.
func TestErrors(t *testing.T) {
	for e, want := range map[api.Errno]int{api.ErrArg: 1, api.ErrDown: 2, api.ErrSegLong: 90, api.ErrSegSpace: 91} {
		if int(e) != want {
			t.Errorf("%d, not %d", e, want)
		}
	}
}

// nothing asks that a log keeps nothing, and tells nothing.
func nothing(t *testing.T, l *Log) {
	t.Helper()
	for range 2 {
		for i, f := range [][]api.Frame{nil, {}, frames(3), frames(1, 2, 3), frames(2001), frames(1, 5000)} {
			if e := l.Append(f); e != api.ErrArg {
				t.Errorf("Append %d: %d", i, e)
			}
		}
		if l.Len() != 0 || len(l.Segments()) != 0 {
			t.Errorf("%d frames, %v", l.Len(), l.Segments())
		}
		for n, f := range l.All() {
			t.Errorf("the frame %d is %v", n, f)
		}
	}
}

// R1: without a log nothing is kept, and nothing told; one that was made by hand has no file system; and without a file system there is no log.
func TestNone(t *testing.T) {
	nothing(t, nil)
	nothing(t, &Log{})
	for _, v := range []*fsdir.FS{nil, {}} {
		if l, e := Open(v); l != nil || e != api.ErrArg {
			t.Errorf("Open: %v, %v", l, e)
		}
	}
}

// P9.3, P9.2: frames with Data of all lengths that the document names; they are there again when all is opened anew.
func TestFrameLengths(t *testing.T) {
	lengths := []int{0, 1, 126, 127, 128, 129, 1998, 1999, 2000}
	for _, n := range lengths {
		w := begin(t, 64)
		if e := w.append(frame(n, n)); e != api.OK || !slices.Equal(w.l.Segments(), []int{long(n)}) {
			t.Errorf("%d bytes: %v, %v", n, e, w.l.Segments())
		}
		w.is()
		w.reopen()
		w.is()
	}
	w := begin(t, 64)
	w.append(frames(lengths...)...)
	for kind := range 256 {
		w.append(api.Frame{Kind: byte(kind), Data: []byte{byte(kind)}})
	}
	w.append(api.Frame{}, api.Frame{Kind: 1, Data: []byte{}})
	w.is()
	w.reopen()
	w.is()
}

// P9.3: one frame that is too long, wherever it stands: nothing is done at all, nor is the file system reset.
func TestTooLong(t *testing.T) {
	w := begin(t, 64)
	w.append(frames(10, 2000)...)
	w.put("o", "unsynced")
	ops := w.d.Ops()
	for _, n := range []int{2001, 2002, 8192, 40000} {
		for _, f := range [][]api.Frame{frames(n), frames(n, 1), frames(1, n), frames(1, n, 1), frames(n, n), frames(2000, 2000, n)} {
			if e := w.append(f...); e != api.ErrSegLong {
				t.Errorf("%d bytes: %v", n, e)
			}
		}
	}
	if w.d.Ops() != ops {
		t.Errorf("%d operations", w.d.Ops()-ops)
	}
	w.is()
	w.sync()
	w.reopen()
	w.is()
	w.leave(0) // it is named ahead of the room that there is not
	if e := w.append(append(slices.Repeat(frames(2000), 50), frame(1, 2001))...); e != api.ErrSegLong {
		t.Errorf("no room, and too long: %v", e)
	}
	w.is()
}

// P9.3: of no frames nothing but a Sync is done, which makes last what others did.
func TestAppendOfNone(t *testing.T) {
	for _, none := range [][]api.Frame{nil, {}, frames(1)[:0]} {
		w := begin(t, 64)
		for i := range 2 {
			w.put(fmt.Sprint("o", i), "others")
			if e := w.append(none...); e != api.OK {
				t.Errorf("Append: %v", e)
			}
			w.is()
			w.reopen()
			w.is()
			w.append(frame(1, 700))
		}
		w.leave(0)
		if e := w.append(none...); e != api.OK {
			t.Errorf("Append, without room: %v", e)
		}
		w.is()
		w.d.Fuse(0)
		if e := w.l.Append(none); e != api.ErrDown || !w.d.Down() {
			t.Errorf("Append, when the device stops: %v", e)
		}
	}
}

// P9.3: a frame that fills the last segment to just SegSize bytes, to one fewer, to one more; laid by one Append, or one Append each.
func TestSegmentsEnd(t *testing.T) {
	four := frames(2000, 2000, 2000, 2000) // 4 * 2007 bytes: 164 are left
	for _, c := range []struct {
		last []int // how many bytes the frames behind have
		want []int
	}{
		{[]int{163}, []int{8191}},
		{[]int{164}, []int{8192}},
		{[]int{165}, []int{8028, 165}},
		{[]int{163, 6}, []int{8191, 6}},
		{[]int{164, 6}, []int{8192, 6}},
		{[]int{158, 6}, []int{8192}},
		{[]int{157, 6}, []int{8191}},
		{[]int{159, 6}, []int{8187, 6}},
		{[]int{165, 6}, []int{8028, 171}},
		{[]int{2007, 6}, []int{8028, 2013}},
		{[]int{164, 2007, 2007, 2007, 2007, 164, 6}, []int{8192, 8192, 6}},
		{[]int{165, 2007, 2007, 2007, 2007}, []int{8028, 165 + 3*2007, 2007}},
	} {
		all := slices.Clone(four)
		for i, n := range c.last {
			all = append(all, longFrame(i, n))
		}
		w, each, hand := begin(t, 128), begin(t, 128), begin(t, 128)
		w.append(all...)
		for _, f := range all {
			each.append(f)
			each.is()
		}
		put(t, hand.v, "seg.0", bytesOf(four...)) // a segment that lay there
		sync(t, hand.v)
		hand.frames, hand.sizes = four, []int{8028}
		hand.reopen()
		hand.append(all[4:]...)
		for _, x := range []*world{w, each, hand} {
			if got := x.l.Segments(); !slices.Equal(got, c.want) {
				t.Errorf("%v: %v, not %v", c.last, got, c.want)
			}
			x.is()
			x.reopen()
			x.is()
		}
	}
}

// P9.3: what the next frame is laid behind, of segments that lay there: just the last one, if it does not get too long.
func TestLaidBehind(t *testing.T) {
	small, full := bytesOf(frames(9)...), bytesOf(append(frames(2000, 2000, 2000, 2000), longFrame(1, 164))...)
	over := bytesOf(frames(2000, 2000, 2000, 2000, 2000)...) // more than SegSize: nobody but a hand lays so
	for _, c := range []struct {
		there []string
		want  []int
	}{
		{[]string{""}, []int{106}},
		{[]string{small}, []int{15 + 106}},
		{[]string{full}, []int{8192, 106}},
		{[]string{over}, []int{10035, 106}},
		{[]string{full[:8028]}, []int{8028 + 106}},
		{[]string{small, small}, []int{15, 15 + 106}},
		{[]string{small, full}, []int{15, 8192, 106}},
		{[]string{"", full, ""}, []int{0, 8192, 106}},
		{[]string{full, "", ""}, []int{8192, 0, 106}},
		{[]string{"", "", full}, []int{0, 0, 8192, 106}},
	} {
		v := empty(t, 128)
		for i, data := range c.there {
			put(t, v, fmt.Sprint("seg.", i), data)
		}
		l := open(t, v)
		if e := l.Append(frames(100)); e != api.OK || !slices.Equal(l.Segments(), c.want) {
			t.Errorf("%v, %v, not %v", e, l.Segments(), c.want)
		}
		for i, n := range c.want {
			data, _ := v.Read(fmt.Sprint("seg.", i), 0, 40000)
			want := bytesOf(frames(100)...)
			if i < len(c.there) {
				want = c.there[i] + want
			}
			if i < len(c.want)-1 {
				want = c.there[i]
			}
			if len(data) != n || string(data) != want {
				t.Errorf("%v: the segment %d has %d bytes", c.want, i, len(data))
			}
		}
	}
}

// P9.2, P9.3: one segment, two, many: their order is that of their numbers, not of their names.
func TestManySegments(t *testing.T) {
	w := begin(t, 512)
	for i := range 110 {
		if e := w.append(frame(i, 2000)); e != api.OK {
			t.Fatalf("Append: %v", e)
		}
		if n := len(w.l.Segments()); n != i/4+1 {
			t.Fatalf("%d frames in %d segments", i+1, n)
		}
		if i%9 == 0 {
			w.is()
		}
	}
	w.reopen()
	w.is()

	v := empty(t, 512)
	var all []api.Frame
	for i := range 64 {
		put(t, v, fmt.Sprint("seg.", i), bytesOf(frame(i, i)))
		all = append(all, frame(i, i))
	}
	l := open(t, v)
	if got := tellFrames(collected(t, l)); got != tellFrames(all) {
		t.Errorf("%s", brief(got))
	}
	for i, n := range l.Segments() {
		if n != 6+i {
			t.Errorf("the segment %d has %d bytes", i, n)
		}
	}
}

// P9.2, P9.3: an Append of many frames at once, over many segments.
func TestManyFrames(t *testing.T) {
	w := begin(t, 512)
	var all []api.Frame
	for i := range 3000 {
		all = append(all, frame(i, i%90))
	}
	if e := w.append(all...); e != api.OK || len(w.l.Segments()) < 10 {
		t.Errorf("%v, %v", e, w.l.Segments())
	}
	w.is()
	w.append(all[:100]...)
	w.reopen()
	w.is()
}

// Types: files whose names are nearly a segment's are none, and stay as they are.
func TestNearlyNames(t *testing.T) {
	near := []string{"seg", "seg.", "seg.00", "seg.01", "seg.-1", "seg.-0", "seg.+0", "seg.0 ", " seg.0", "seg. 0", "seg.0.", "seg.0\n", "Seg.0", "SEG.0", "seg_0", "seg0", "seg.a", "seg.0x0", "seg.1e0", "seg.0\x00", "segs.0", "seg.٠", "seg.18446744073709551616", strings.Repeat("seg.", 10)}
	w := begin(t, 512)
	for i, name := range near {
		w.put(name, bytesOf(frame(i, 9))+"torn")
	}
	w.sync()
	w.reopen()
	w.is()
	for i := range 12 {
		w.append(frame(i, 2000))
	}
	w.is()
	w.reopen()
	w.is()
	if e := w.v.Append("seg.1", []byte("torn")); e != api.OK { // they stay where a segment is torn, too
		t.Fatal(e)
	}
	sync(t, w.v)
	w.frames, w.sizes = w.frames[:8], w.sizes[:2]
	w.reopen()
	w.is()
}

// Types: where a number lacks the segments end, whatever is behind it.
func TestNumberLacks(t *testing.T) {
	for _, torn := range []string{"", "torn"} {
		for _, there := range [][]int{{1}, {1, 2}, {0, 2}, {0, 1, 3, 4}, {0, 1, 2, 10}, {0, 9, 10, 11}} {
			v := empty(t, 128)
			last := 0 // how many segments there are
			for i, n := range there {
				if i == n {
					last = n + 1
				}
			}
			for _, n := range there {
				data := bytesOf(frames(n, n)...)
				if n >= last-1 {
					data += torn
				}
				put(t, v, fmt.Sprint("seg.", n), data)
			}
			sync(t, v)
			want := content(t, v)
			l := open(t, v)
			for i, n := range l.Segments() {
				if n != 2*long(i) {
					t.Errorf("%v: the segment %d has %d bytes", there, i, n)
				}
				want[fmt.Sprint("seg.", i)] = bytesOf(frames(i, i)...)
			}
			if len(l.Segments()) != last || l.Len() != 2*last || tellFiles(content(t, v)) != tellFiles(want) {
				t.Errorf("%v: %d frames, %v, %q", there, l.Len(), l.Segments(), v.List())
			}
		}
	}
}

// P9.3: a file that is called as the next segment is to be: the file system refuses to create that.
func TestNextIsThere(t *testing.T) {
	v := empty(t, 128)
	put(t, v, "seg.2", "a stranger's")
	sync(t, v)
	l := open(t, v)
	if e := l.Append(slices.Repeat(frames(2000), 8)); e != api.OK || !slices.Equal(l.Segments(), []int{8028, 8028}) {
		t.Fatalf("%v, %v", e, l.Segments())
	}
	want := tell(t, v, l)
	for _, f := range [][]api.Frame{frames(2000), frames(9, 2000), slices.Repeat(frames(2000), 9)} {
		if e := l.Append(f); e != api.ErrSegSpace || tell(t, v, l) != want {
			t.Errorf("%v: %s", e, brief(tell(t, v, l)))
		}
	}
	if e := l.Append(frames(100)); e != api.OK {
		t.Errorf("within the last segment: %v", e)
	}
}

// P9.5: what was appended stays, in that order, whatever comes behind it.
func TestStays(t *testing.T) {
	w := begin(t, 256)
	var was string
	for i := range 60 {
		w.append(frame(i, i*37%2001), frame(i+1, i*91%300))
		now := tellFrames(collected(t, w.l))
		if !strings.HasPrefix(now, was) {
			t.Fatalf("behind the Append %d others are there", i)
		}
		was = now
		if i%7 == 0 {
			w.reopen()
		}
	}
	w.is()
}
