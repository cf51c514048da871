package store

import (
	"fmt"
	"maps"
	"slices"
	"strings"
	"testing"

	"cartulary/api"
	"cartulary/blockdev"
	"cartulary/codec"
	"cartulary/fsdir"
)

// The chapter's examples.
func TestExamples(t *testing.T) {
	d := device(t, 64)
	if s, e := Open(d); s != nil || e != api.ErrFsForm {
		t.Errorf("Open: %v, %v", s, e)
	}
	if e := Format(d); e != api.OK {
		t.Errorf("Format: %v", e)
	}
	s := open(t, d)
	one := api.Event{Type: "opened", Version: 1}
	two := []api.Event{one, one}
	if a, e := s.Append("a", -1, "k", two); a != (api.Appended{First: 0, Pos: 0, Count: 2}) || e != api.OK {
		t.Errorf("Append: %v, %v", a, e)
	}
	if a, e := s.Append("a", 0, "k", two[:1]); a != (api.Appended{First: 0, Pos: 0, Count: 2, Again: true}) || e != api.OK {
		t.Errorf("Append: %v, %v", a, e)
	}
	if a, e := s.Append("a", 0, "", two[:1]); a != (api.Appended{}) || e != api.ErrStreamVersion || s.Length() != 2 {
		t.Errorf("Append: %v, %v, %d", a, e, s.Length())
	}
	if e, f := s.Save("s", []byte("x")), s.Save("s", []byte("y")); e != api.OK || f != api.OK {
		t.Errorf("Save: %v, %v", e, f)
	}
	if b, e := s.Saved("s"); string(b) != "y" || e != api.OK {
		t.Errorf("Saved: %q, %v", b, e)
	}
	if b, e := s.Saved("t"); len(b) != 0 || e != api.ErrStoreNone || !slices.Equal(s.Names(), []string{"s"}) {
		t.Errorf("Saved: %q, %v, %q", b, e, s.Names())
	}
	d.Crash(nil)
	s = open(t, d)
	stream, a, ok := s.Keyed("k")
	if s.Length() != 2 || stream != "a" || a != (api.Appended{First: 0, Pos: 0, Count: 2}) || !ok {
		t.Errorf("%d; %q, %v, %v", s.Length(), stream, a, ok)
	}
	if b, e := s.Saved("s"); string(b) != "y" || e != api.OK {
		t.Errorf("Saved: %q, %v", b, e)
	}
}

// The errors' numbers.
func TestErrors(t *testing.T) {
	for e, want := range map[api.Errno]int{
		api.ErrArg: 1, api.ErrDown: 2, api.ErrFsForm: 86, api.ErrStreamName: 100, api.ErrStreamKey: 101, api.ErrStreamEvents: 102, api.ErrStreamVersion: 103,
		api.ErrStoreLong: 110, api.ErrStoreSpace: 111, api.ErrStoreNone: 112,
	} {
		if int(e) != want {
			t.Errorf("%d, not %d", e, want)
		}
	}
}

// nothing asks that a store keeps nothing, and tells nothing.
func nothing(t *testing.T, s *Store) {
	t.Helper()
	for range 2 {
		for _, name := range []string{"", "a", text(1, 30), text(1, 61)} {
			for _, n := range []int{least, -2, -1, 0, 1, most} {
				a, e := s.Append(name, n, name, events(1, 1))
				b, f := s.Append(name, n, "", nil)
				l, g := s.Stream(name, n, n)
				m, h := s.All(n, n)
				if a != (api.Appended{}) || b != a || len(l)+len(m) != 0 || e != api.ErrArg || f != e || g != e || h != e {
					t.Errorf("%q, %d: %v, %d, %v, %d, %v, %d, %v, %d", name, n, a, e, b, f, l, g, m, h)
				}
			}
			data, e := s.Saved(name)
			for i, e := range []api.Errno{e, s.Save(name, nil), s.Save(name, make([]byte, 8001)), s.Drop(name)} {
				if len(data) != 0 || e != api.ErrArg {
					t.Errorf("call %d of %q: %d", i, name, e)
				}
			}
			stream, a, ok := s.Keyed(name)
			if stream != "" || a != (api.Appended{}) || ok || s.Version(name) != 0 {
				t.Errorf("%q: %q, %v, %v, %d", name, stream, a, ok, s.Version(name))
			}
		}
		if s.Length() != 0 || len(s.Streams()) != 0 || len(s.Names()) != 0 {
			t.Errorf("%d, %q, %q", s.Length(), s.Streams(), s.Names())
		}
	}
}

// R1: without a store nothing is kept, and nothing told; one that was made by hand has nothing; and without a device there is no store.
func TestNone(t *testing.T) {
	nothing(t, nil)
	nothing(t, &Store{})
	if e := Format(nil); e != api.ErrArg {
		t.Errorf("Format: %v", e)
	}
	if s, e := Open(nil); s != nil || e != api.ErrArg {
		t.Errorf("Open: %v, %v", s, e)
	}
	hand := &blockdev.Device{}
	if e := Format(hand); e == api.OK {
		t.Errorf("Format of a device without blocks: %v", e)
	}
	if s, e := Open(hand); s != nil || e == api.OK {
		t.Errorf("Open of a device without blocks: %v", e)
	}
}

// P11.1: devices of all sizes that the document names: Open of noughts, Format, Open; what lies there then is empty, behind a crash too.
func TestFormat(t *testing.T) {
	for _, blocks := range []int{64, 65, 128, 511, 512} {
		d := device(t, blocks)
		for range 2 {
			if s, e := Open(d); s != nil || e != api.ErrFsForm {
				t.Errorf("%d blocks: Open: %v, %v", blocks, s, e)
			}
		}
		w := begin(t, blocks)
		w.is("a", "k")
		w.reopen()
		w.is()
		if n := mount(t, w.d).Free(); n != blocks-36 {
			t.Errorf("%d blocks: %d free", blocks, n)
		}
	}
}

// P11.1: Format of a device on which a store lies, or something else: an empty one lies there.
func TestFormatAnew(t *testing.T) {
	for _, blocks := range []int{64, 512} {
		w := grown(t, blocks)
		if e := Format(w.d); e != api.OK {
			t.Fatalf("Format: %v", e)
		}
		w.d.Crash(slices.Repeat([]int{1}, blocks))
		w.s, w.m = open(t, w.d), &model{blocks: blocks, saved: map[string]string{}}
		w.is("a", "one", "k")
		w.adds("a", "k", 1)
		w.saves("one", "1")
		w.is()
	}
	d := device(t, 64)
	for n := range 64 {
		d.Write(n, []byte(text(n, 512)))
	}
	if s, e := Open(d.Copy()); s != nil || e != api.ErrFsForm {
		t.Errorf("Open: %v, %v", s, e)
	}
	if e := Format(d); e != api.OK {
		t.Fatalf("Format: %v", e)
	}
	d.Crash(nil)
	if s := open(t, d); s.Length() != 0 || len(s.Names()) != 0 {
		t.Errorf("%d events, %q", s.Length(), s.Names())
	}
}

// P11.1: what lies in which files, told by their bytes.
func TestFiles(t *testing.T) {
	w := begin(t, 64)
	w.append("acc", 0, "k", []api.Event{{Type: "opened", Version: 3, Fields: []api.Field{{Name: "n", N: 5}, {Name: "s", Text: true, S: "xy"}}}})
	w.saves("x", "saved")
	w.saves("seg.0", "")
	data := "\x03acc\x01k\x00\x01\x06opened\x03\x02\x01n\x00\x0a\x01s\x01\x02xy"
	frame, _ := codec.PutFrame(nil, api.Frame{Kind: 1, Data: []byte(data)})
	want := map[string]string{"seg.0": string(frame), "save.x": "saved", "save.seg.0": ""}
	if got := filesOf(t, w.d.Copy()); !maps.Equal(got, want) {
		t.Errorf("%q, not %q", got, want)
	}
	w.is()

	for range 5 { // more than a segment takes
		w.append("long", -1, "", sized("long", "", w.m.version("long"), 2000))
	}
	l := mount(t, w.d.Copy()).List()
	if !slices.Equal(l, []string{"save.seg.0", "save.x", "seg.0", "seg.1"}) {
		t.Errorf("%q", l)
	}
	w.is()
	w.reopen()
	w.is()
}

// P11.1: what somebody lays by the layers below is the store that lies there.
func TestLaidBelow(t *testing.T) {
	w := grown(t, 128)
	d := device(t, 128)
	if e := fsdir.Format(d); e != api.OK {
		t.Fatal(e)
	}
	if s := open(t, d.Copy()); s.Length() != 0 || len(s.Names()) != 0 {
		t.Errorf("%d events, %q", s.Length(), s.Names())
	}
	v := mount(t, d)
	files := w.m.files()
	for _, name := range slices.Sorted(maps.Keys(files)) {
		if e, f := v.Create(name), v.Append(name, []byte(files[name])); e != api.OK || f != api.OK {
			t.Fatal(e, f)
		}
	}
	if e := v.Sync(); e != api.OK {
		t.Fatal(e)
	}
	w.d, w.s = d, open(t, d)
	w.is()
	w.adds("a", "more", 3)
	w.saves("one", "again")
	w.is()
}

// strange are logs that no store has laid: frames of another kind, with other bytes, and batches that are not those that can come next.
func strange() map[string][]api.Frame {
	laid := func(kind byte, l ...api.Batch) []api.Frame {
		var to []api.Frame
		for _, b := range l {
			data, _ := codec.PutBatch(nil, b)
			to = append(to, api.Frame{Kind: kind, Data: data})
		}
		return to
	}
	one := api.Batch{Stream: "a", Key: "k", Events: events(1, 1)}
	other := api.Batch{Stream: "b", Key: "k", Events: events(1, 1)}
	late := api.Batch{Stream: "a", First: 2, Events: events(1, 1)}
	behind := append(laid(1, one), api.Frame{Kind: 1, Data: append(laid(1, late)[0].Data, 0)})
	return map[string][]api.Frame{
		"kind 0": laid(0, one), "kind 2": laid(2, one), "no batch": {{Kind: 1, Data: []byte("batch")}}, "empty": {{Kind: 1}},
		"twice": laid(1, one, one), "another's key": laid(1, one, other), "a gap": laid(1, one, late), "bytes behind": behind,
	}
}

// R1: on a device into which somebody else has written no store lies, or one that goes on; nothing panics.
func TestStrange(t *testing.T) {
	for name, l := range strange() {
		d := laid(t, 64)
		v := mount(t, d)
		v.Create("seg.0")
		for _, f := range l {
			b, _ := codec.PutFrame(nil, f)
			v.Append("seg.0", b)
		}
		v.Sync()
		if s, e := Open(d); s != nil || e != api.ErrFsForm {
			t.Errorf("%s: Open: %v", name, e)
		}
	}
	w := grown(t, 64) // a torn segment has the frames that can be read of it
	v := mount(t, w.d)
	v.Append("seg.0", []byte("torn"))
	v.Create("other")
	v.Sync()
	w.s = open(t, w.d)
	v = mount(t, w.d)
	v.Remove("other")
	v.Sync()
	w.s = open(t, w.d)
	w.is()
	w.adds("a", "", 1)
	w.is()

	v = mount(t, w.d) // also where there is no room to mend it
	v.Append("seg.0", []byte("torn"))
	v.Create("fill")
	v.Append("fill", make([]byte, 512*v.Free()))
	v.Sync()
	was := filesOf(t, w.d.Copy())
	if s, e := Open(w.d); s != nil || e != api.ErrStoreSpace {
		t.Errorf("Open: %v", e)
	}
	if got := filesOf(t, w.d.Copy()); !maps.Equal(got, was) {
		t.Errorf("%q, not %q", got, was)
	}
}

// R1: nothing panics whatever bytes stand in the blocks of a store.
func TestScribbled(t *testing.T) {
	w := grown(t, 64)
	for n := range 64 {
		for _, b := range [][]byte{make([]byte, 512), []byte(strings.Repeat("\xff", 512)), []byte(text(n, 512))} {
			d := w.d.Copy()
			d.Write(n, b)
			s, e := Open(d)
			if (s == nil) != (e != api.OK) {
				t.Errorf("block %d: %v, %v", n, s, e)
			}
			if s == nil {
				continue
			}
			s.Append("a", -1, "", events(1, 16))
			for _, name := range append(s.Names(), "new") {
				s.Saved(name)
				s.Save(name, []byte("x"))
				s.Drop(name)
			}
			tellStreams(t, s, []string{"k"}, []string{"a"})
		}
	}
}

// P11.3: all that was added is told, part by part, as streams tells it: of one that was appended to, and of one that was opened.
func TestParts(t *testing.T) {
	w := grown(t, 64)
	numbers := []int{least, -1, 0, 1, 2, 5, 6, 15, 16, 17, 31, 32, 33, most}
	for range 2 {
		for _, from := range numbers {
			for _, many := range numbers {
				l, e := w.s.All(from, many)
				w.same(fmt.Sprintf("All(%d, %d)", from, many), l, e, w.m.entries(), from, many)
				for _, name := range []string{"a", "ab", "c", "", "not there"} {
					l, e := w.s.Stream(name, from, many)
					w.same(fmt.Sprintf("Stream(%q, %d, %d)", name, from, many), l, e, w.m.of(name), from, many)
				}
			}
		}
		w.is()
		w.reopen()
	}
}

// same asks whether entries are the part of some that was asked for.
func (w *world) same(call string, l []api.Entry, e api.Errno, of []api.Entry, from, many int) {
	w.t.Helper()
	var want []api.Entry
	wantE := api.OK
	if from < 0 || many < 0 {
		wantE = api.ErrArg
	} else {
		for i, x := range of {
			if i >= from && len(want) < many {
				want = append(want, x)
			}
		}
	}
	if e != wantE || tellEntries(l) != tellEntries(want) {
		w.t.Fatalf("%s: %d,\n%snot %d,\n%s", call, e, tellEntries(l), wantE, tellEntries(want))
	}
}

// P11.3: of an empty store nothing is told.
func TestEmpty(t *testing.T) {
	w := begin(t, 64)
	for range 2 {
		if w.s.Length() != 0 || w.s.Version("a") != 0 || len(w.s.Streams()) != 0 || len(w.s.Names()) != 0 {
			t.Errorf("%d, %d, %q, %q", w.s.Length(), w.s.Version("a"), w.s.Streams(), w.s.Names())
		}
		w.is("a")
		w.reopen()
	}
}
