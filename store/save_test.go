package store

import (
	"fmt"
	"math/rand"
	"slices"
	"strings"
	"testing"

	"cartulary/api"
)

// P11.4: names of all lengths that the document names, in bytes, of bytes of any kind.
func TestSaveNames(t *testing.T) {
	for _, unit := range []string{"a", "\x00", "\xff", "é", ".", "/"} {
		w := grown(t, 64)
		for _, n := range []int{0, 1, 29, 30, 31, 32, 35, 36, 1000} {
			name := strings.Repeat(unit, n)[:n]
			want, gone := api.OK, api.OK
			if n < 1 || n > 30 {
				want, gone = api.ErrStreamName, api.ErrStoreNone
			}
			if e := w.save(name, "data"); e != want {
				t.Errorf("Save(%q): %v", name, e)
			}
			if data, e := w.s.Saved(name); e != gone || e == api.OK && string(data) != "data" || e != api.OK && len(data) != 0 {
				t.Errorf("Saved(%q): %q, %v", name, data, e)
			}
			w.is(name)
			w.reopen()
			w.is(name)
			if e := w.drop(name); e != gone {
				t.Errorf("Drop(%q): %v", name, e)
			}
			w.is(name)
			w.reopen()
			w.is(name)
		}
	}
}

// P11.4: data of all lengths that the document names.
func TestSaveLengths(t *testing.T) {
	for _, n := range []int{0, 1, 2, 511, 512, 513, 7999, 8000, 8001, 8002, 32768, 32769, 100000} {
		w := begin(t, 64)
		w.adds("a", "k", 2)
		want := api.OK
		if n > 8000 {
			want = api.ErrStoreLong
		}
		if e := w.save("x", text(n, n)); e != want {
			t.Errorf("%d bytes: %v", n, e)
		}
		data, e := w.s.Saved("x")
		if want == api.OK && (string(data) != text(n, n) || e != api.OK) || want != api.OK && (len(data) != 0 || e != api.ErrStoreNone) {
			t.Errorf("Saved: %d bytes, %v", len(data), e)
		}
		w.is("x")
		w.reopen()
		w.is("x")
	}
}

// P11.4: what is too long leaves what was saved so.
func TestTooLongInPlace(t *testing.T) {
	w := begin(t, 64)
	w.saves("x", "elder")
	if e := w.save("x", text(1, 8001)); e != api.ErrStoreLong {
		t.Errorf("%v", e)
	}
	w.is()
	w.reopen()
	w.is()
}

// P11.4: of several errors the first named one is answered.
func TestSaveSeveralErrors(t *testing.T) {
	w := begin(t, 64)
	w.saves("x", "x")
	w.leave(0)
	for _, c := range []struct {
		name  string
		bytes int
		want  api.Errno
	}{
		{"", 8001, api.ErrStreamName}, {text(1, 31), 8001, api.ErrStreamName}, {"", 1, api.ErrStreamName}, {text(1, 31), 8000, api.ErrStreamName}, {"", 0, api.ErrStreamName},
		{"y", 8001, api.ErrStoreLong}, {"x", 8001, api.ErrStoreLong}, {text(1, 30), 8001, api.ErrStoreLong},
		{"y", 8000, api.ErrStoreSpace}, {"x", 1, api.ErrStoreSpace}, {"y", 1, api.ErrStoreSpace}, {"y", 0, api.OK}, {"x", 0, api.OK},
	} {
		if e := w.save(c.name, text(1, c.bytes)); e != c.want {
			t.Errorf("Save(%q, %d bytes): %v", c.name, c.bytes, e)
		}
		w.is(c.name)
	}
}

// P11.4: what is saved stands in place of what was, whatever the lengths of both.
func TestInPlace(t *testing.T) {
	lengths := []int{0, 1, 511, 512, 513, 1500, 5000}
	for _, was := range lengths {
		for _, n := range lengths {
			w := begin(t, 64)
			w.saves("x", text(1, was))
			w.saves("y", "beside")
			w.adds("a", "", 3)
			free := w.m.free()
			w.saves("x", text(2, n))
			w.is()
			if mount(t, w.d.Copy()).Free() != free+counted(was)-counted(n) {
				t.Errorf("%d bytes in place of %d", n, was)
			}
			w.reopen()
			w.is()
			for range 40 { // over and over, the room that was given back is there again
				w.saves("x", text(3, n))
				w.saves("x", text(4, was))
			}
			w.is()
		}
	}
}

// P11.4: the last Save for which there is room, and the first for which there is none: of a new name.
func TestSaveRoom(t *testing.T) {
	for _, free := range []int{0, 1, 2, 7, 15} {
		for _, more := range []int{0, 1} {
			w := begin(t, 64)
			w.adds("a", "k", 2)
			w.leave(free)
			w.reopen()
			want := api.OK
			if more > 0 {
				want = api.ErrStoreSpace
			}
			if e := w.save("x", text(1, 512*free+more)); e != want {
				t.Errorf("%d free, %d bytes: %v", free, 512*free+more, e)
			}
			w.is("x")
			w.reopen()
			w.is("x")
			if want == api.OK {
				continue
			}
			w.drop("fill0")
			if e := w.save("x", text(1, 512*free+more)); e != api.OK {
				t.Errorf("%d free, %d bytes: %v", free, 512*free+more, e)
			}
			w.is()
		}
	}
}

// P11.4: likewise in place of what was saved so, which needs its room till then; refused, it leaves that.
func TestSaveRoomInPlace(t *testing.T) {
	for _, was := range []int{0, 1, 600, 3000} {
		for _, free := range []int{0, 1, 2, 6, 15} {
			for _, more := range []int{0, 1} {
				w := begin(t, 64)
				w.adds("a", "k", 2)
				w.saves("x", text(1, was))
				w.leave(free)
				w.reopen()
				want := api.OK
				if more > 0 {
					want = api.ErrStoreSpace
				}
				if e := w.save("x", text(2, 512*free+more)); e != want {
					t.Errorf("%d free, %d bytes in place of %d: %v", free, 512*free+more, was, e)
				}
				w.is()
				w.reopen()
				w.is()
			}
		}
	}
}

// P11.4: Saves till there is no room, on devices of both sizes.
func TestSaveFill(t *testing.T) {
	for _, c := range []struct{ blocks, bytes int }{{64, 8000}, {64, 512}, {64, 513}, {512, 8000}, {512, 4096}, {512, 1}} {
		w := begin(t, c.blocks)
		n := 0
		for w.save(fmt.Sprint("n", n), text(n, c.bytes)) == api.OK {
			n++
		}
		if want := min(64, (c.blocks-36)/counted(c.bytes)); n != want {
			t.Errorf("%d blocks, %d bytes: %d Saves, not %d", c.blocks, c.bytes, n, want)
		}
		for range 2 {
			if e := w.save("more", text(n, c.bytes)); e != api.ErrStoreSpace {
				t.Errorf("%d blocks, %d bytes: %v", c.blocks, c.bytes, e)
			}
			w.is("more")
			w.reopen()
			w.is("more")
		}
		w.drop("n0")
		if e := w.save("more", text(n, c.bytes)); e != api.OK {
			t.Errorf("%d blocks, %d bytes: %v", c.blocks, c.bytes, e)
		}
		w.is()
	}
}

// P11.4: there are 64 files, segments too; in place of one of them another one may be.
func TestSaveFiles(t *testing.T) {
	for _, segments := range []int{0, 1, 2} {
		w := begin(t, 512)
		for len(w.m.sizes) < segments {
			w.sizedBatch(2000)
		}
		for i := range 64 - segments {
			w.saves(fmt.Sprint("n", i), "data")
		}
		for _, data := range []string{"", "x"} {
			if e := w.save("new", data); e != api.ErrStoreSpace {
				t.Errorf("a file more: %v", e)
			}
		}
		w.is("new")
		if e := w.save("n7", "in its place"); e != api.OK {
			t.Errorf("in place: %v", e)
		}
		w.is()
		w.drop("n0")
		if e := w.save("new", "x"); e != api.OK {
			t.Errorf("in place of one that was dropped: %v", e)
		}
		if e := w.save("n0", "x"); e != api.ErrStoreSpace {
			t.Errorf("a file more: %v", e)
		}
		w.is()
		w.reopen()
		w.is()
	}
}

// P11.4: Saved and Drop of a name that is not there, and of one that was dropped; what stands beside it stays.
func TestDrop(t *testing.T) {
	w := grown(t, 64)
	none := func(name string) {
		t.Helper()
		if data, e := w.s.Saved(name); len(data) != 0 || e != api.ErrStoreNone {
			t.Errorf("Saved(%q): %q, %v", name, data, e)
		}
		if e := w.drop(name); e != api.ErrStoreNone {
			t.Errorf("Drop(%q): %v", name, e)
		}
	}
	for _, name := range []string{"", "x", "on", "one ", "One", "save.one", "a", text(1, 30), text(1, 31), text(1, 100)} {
		none(name)
	}
	for _, name := range []string{"one", "empty", "two"} {
		if e := w.drop(name); e != api.OK {
			t.Errorf("Drop(%q): %v", name, e)
		}
		none(name)
		w.is(name)
		w.reopen()
		none(name)
		w.is(name)
	}
	free := w.m.free()
	if n := mount(t, w.d.Copy()).Free(); n != free {
		t.Errorf("%d free, not %d", n, free)
	}
	w.saves("one", "again")
	w.is()
	w.drop("one")
	w.is("one")
}

// P11.4: names that begin with one another, and those that are called as files are, are names of their own.
func TestNamesLikeFiles(t *testing.T) {
	w := begin(t, 64)
	l := []string{"s", "save", "save.", "save.s", "save.save.s", "seg", "seg.", "seg.0", "seg.1", "s\x00", "\x00s"}
	for i, name := range l {
		w.saves(name, text(i, 10+i))
		w.adds(name, name, 1)
	}
	w.is()
	w.reopen()
	w.is()
	for _, name := range l {
		w.drop(name)
		w.is(name)
	}
	w.reopen()
	w.is(l...)
}

// P11.4: Names rise byte by byte, whatever the order of the Saves.
func TestNames(t *testing.T) {
	want := []string{"\x00", "\x00\x00", "\x00a", " ", "A", "B", "Z", "a", "a\x00", "a\x00b", "a ", "aA", "aa", "aab", "ab", "a\x7f", "a\x80", "aé", "a\xff", "b", "z", "\x7f", "\x80", "é", "\xfe", "\xff", "\xff\x00", "\xff\xff"}
	r := rand.New(rand.NewSource(1))
	for range 20 {
		w := begin(t, 128)
		for _, i := range r.Perm(len(want)) {
			w.saves(want[i], "x")
			if r.Intn(2) == 0 {
				w.saves(want[i], "yy")
			}
		}
		w.saves("gone", "")
		w.drop("gone")
		if l := w.s.Names(); !slices.Equal(l, want) {
			t.Fatalf("%q", l)
		}
		w.adds("stream", "", 1)
		w.reopen()
		if l := w.s.Names(); !slices.Equal(l, want) {
			t.Fatalf("%q", l)
		}
	}
}

// P11.7: what is saved hangs on no append, nor the other way round: what is told of the streams is as without Saves and Drops, and what is saved as without Appends.
func TestApart(t *testing.T) {
	for seed := range 10 {
		r := rand.New(rand.NewSource(int64(seed)))
		both, streams, saves := begin(t, 512), begin(t, 512), begin(t, 512)
		for range 60 {
			name, key, n := fmt.Sprint("x", r.Intn(5)), "", 1+r.Intn(3)
			switch r.Intn(4) {
			case 0:
				data := text(n, r.Intn(3000))
				both.save(name, data)
				saves.save(name, data)
			case 1:
				both.drop(name)
				saves.drop(name)
			default:
				if r.Intn(2) == 0 {
					key = fmt.Sprint("x", r.Intn(9))
				}
				both.append(name, -1, key, events(n, n))
				streams.append(name, -1, key, events(n, n))
			}
			if r.Intn(8) == 0 {
				both.reopen()
			}
		}
		both.is()
		streams.is()
		saves.is()
		keys := streams.m.keys()
		if a, b := tellStreams(t, both.s, keys, nil), tellStreams(t, streams.s, keys, nil); a != b {
			t.Errorf("%s\nnot\n%s", brief(a), brief(b))
		}
		if a, b := both.s.Names(), saves.s.Names(); !slices.Equal(a, b) {
			t.Errorf("%q, not %q", a, b)
		}
		for _, name := range saves.s.Names() {
			a, e := both.s.Saved(name)
			b, f := saves.s.Saved(name)
			if string(a) != string(b) || e != f {
				t.Errorf("Saved(%q): %d bytes, %v; not %d, %v", name, len(a), e, len(b), f)
			}
		}
	}
}
