package segment

import (
	"fmt"
	"maps"
	"slices"
	"testing"

	"cartulary/api"
	"cartulary/fsdir"
)

// end is what the bytes of a segment are: frames, and what stands behind them.
type end struct {
	name   string
	frames []api.Frame
	rest   string
}

// ends are segments that end in a whole frame, in a piece of one, in bytes that are no frame, and that have no bytes, or no frame.
func ends() []end {
	two := frames(5, 600)
	next := bytesOf(frame(9, 200))
	return []end{
		{"whole", two, ""},
		{"a piece", two, next[:150]},
		{"no frame", two, "no frame at all"},
		{"no bytes", nil, ""},
		{"no frame from the first byte on", nil, "\x07"},
	}
}

// data are all bytes of a segment.
func (x end) data() string { return bytesOf(x.frames...) + x.rest }

// layEnds makes files of segments.
func layEnds(t *testing.T, v *fsdir.FS, l []end) {
	t.Helper()
	for i, x := range l {
		put(t, v, fmt.Sprint("seg.", i), x.data())
	}
}

// opened asks whether Open makes of segments what the chapter says, of files beside them nothing.
func opened(t *testing.T, l []end, synced bool) {
	t.Helper()
	d := laid(t, 128)
	v := mount(t, d)
	put(t, v, "o", "synced")
	layEnds(t, v, l)
	sync(t, v)
	if !synced {
		for i := range l {
			v.Remove(fmt.Sprint("seg.", i))
		}
		layEnds(t, v, l)
	}
	put(t, v, "p", "unsynced")
	w := &world{t: t, d: d, v: v, others: map[string]string{"o": "synced", "p": "unsynced"}, last: map[string]string{"o": "synced"}}
	torn := false
	for _, x := range l {
		w.frames = append(w.frames, x.frames...)
		w.sizes = append(w.sizes, len(bytesOf(x.frames...)))
		if x.rest != "" {
			torn = true
			break
		}
	}
	was := d.Copy()
	w.l = open(t, v)
	w.is()
	if torn {
		w.last = maps.Clone(w.others)
		if len(d.Pending()) > 0 {
			t.Errorf("%v are not flushed", d.Pending())
		}
	} else if !slices.Equal(d.Pending(), was.Pending()) {
		t.Errorf("%v are written", d.Pending())
	}
	if torn || synced {
		w.reopen()
		w.is()
	}
	w.append(frame(3, 30))
	w.is()
}

// P9.1: up to three segments with all ends, so a torn one that is the first, one in between, the last; and none that is torn: then nothing is done, and what others did is not made to last.
func TestEnds(t *testing.T) {
	cases := 0
	var try func(names string, l []end)
	try = func(names string, l []end) {
		cases++
		t.Run(names, func(t *testing.T) {
			opened(t, l, true)
			opened(t, l, false)
		})
		for _, x := range ends() {
			if len(l) < 3 {
				try(names+x.name+"; ", append(slices.Clone(l), x))
			}
		}
	}
	try("", nil)
	if cases != 1+5+25+125 {
		t.Errorf("%d cases", cases)
	}
}

// P9.1: a segment that ends within a frame, behind each of its bytes.
func TestPieces(t *testing.T) {
	whole := bytesOf(frames(3, 140)...)
	first := long(3)
	for n := range len(whole) + 1 {
		v := empty(t, 64)
		put(t, v, "seg.0", whole[:n])
		put(t, v, "seg.1", whole)
		l := open(t, v)
		want, files := []int{0}, []string{"seg.0"}
		switch {
		case n == 0:
			want, files = []int{0, len(whole)}, []string{"seg.0", "seg.1"}
		case n == len(whole):
			want, files = []int{len(whole), len(whole)}, []string{"seg.0", "seg.1"}
		case n == first:
			want, files = []int{first, len(whole)}, []string{"seg.0", "seg.1"}
		case n > first:
			want = []int{first}
		}
		if !slices.Equal(l.Segments(), want) || !slices.Equal(v.List(), files) {
			t.Errorf("%d bytes: %v, not %v; %q", n, l.Segments(), want, v.List())
		}
		if data, e := v.Read("seg.0", 0, 9999); e != api.OK || string(data) != whole[:want[0]] {
			t.Errorf("%d bytes: %d are left, %v", n, len(data), e)
		}
	}
}

// P9.1: bytes that are no frame in the midst of others: what is behind them is not read.
func TestMidst(t *testing.T) {
	one := bytesOf(frame(1, 50))
	turned := []byte(one)
	turned[20] ^= 4
	tooMuch := "\x00\x00\x00\x00\x01\xd1\x0f" + text(1, 2001) // it says that it has 2001 bytes
	for i, bad := range []string{"\x00", "\xff", string(turned), tooMuch, one[1:], text(0, 40)} {
		opened(t, []end{{"", frames(5, 600), bad + one + one}, {"", frames(3), ""}, {"", frames(3), ""}}, true)
		opened(t, []end{{"", frames(5), ""}, {"", nil, bad + one}}, true)
		opened(t, []end{{"", frames(2000, 2000, 2000), bad + one}}, i%2 == 0)
	}
}

// P9.1: many segments behind a torn one, all of which go, and what others have stays.
func TestManyBehind(t *testing.T) {
	for torn := range 13 {
		var l []end
		for i := range 13 {
			l = append(l, end{"", frames(i, 10*i), ""})
		}
		l[torn].rest = "torn"
		opened(t, l, true)
	}
}

// P9.1: segments of as many bytes as a file may have are read to their end.
func TestLongest(t *testing.T) {
	full := slices.Repeat(frames(2000), 16)
	full = append(full, longFrame(7, 32768-16*2007))
	for _, rest := range []string{"", "torn"} {
		v := empty(t, 300)
		l := full
		if rest != "" { // the last frame alone lacks, and its room is filled
			l = full[:16]
			rest = text(1, 32768-16*2007)
		}
		put(t, v, "seg.0", bytesOf(l...)+rest)
		if n, _ := v.Size("seg.0"); n != 32768 {
			t.Fatalf("%d bytes", n)
		}
		sync(t, v)
		x := open(t, v)
		if x.Len() != len(l) || !slices.Equal(x.Segments(), []int{len(bytesOf(l...))}) {
			t.Errorf("%d frames, %v", x.Len(), x.Segments())
		}
		if n, _ := v.Size("seg.0"); n != len(bytesOf(l...)) {
			t.Errorf("%d bytes are left", n)
		}
	}
}

// P9.1: a log that was mended is not mended again, and goes on.
func TestMendedOnce(t *testing.T) {
	d := laid(t, 64)
	v := mount(t, d)
	layEnds(t, v, ends()[1:3])
	sync(t, v)
	open(t, v)
	v = mount(t, d)
	ops := d.Ops()
	l := open(t, v)
	for _, data := range content(t, v) {
		ops += counted(len(data))
	}
	if d.Ops() != ops || l.Len() != 2 {
		t.Errorf("%d operations too many, %d frames", d.Ops()-ops, l.Len())
	}
}
