package codec

import (
	"bytes"
	"slices"
	"testing"

	"cartulary/api"
)

// roomy is s with spare room, in the midst of memory that is answered too.
func roomy(s string) (b, all []byte) {
	all = bytes.Repeat([]byte{0xa5}, len(s)+64)
	copy(all[8:], s)
	return all[8 : 8+len(s)], all
}

// scribble writes over a list, its spare room too.
func scribble(b []byte) {
	b = b[:cap(b)]
	for i := range b {
		b[i] ^= 0x5a
	}
}

// R4: nothing of what is handed in is written, its spare room included, and what is answered is new memory.
func TestPutsLeaveWhatIsHandedIn(t *testing.T) {
	batch := api.Batch{Stream: "s", Key: "k", Events: []api.Event{with(api.Field{Name: "n", N: 5})}}
	puts := map[string]func(b []byte) []byte{
		"PutUint":  func(b []byte) []byte { return PutUint(b, 300) },
		"PutInt":   func(b []byte) []byte { return PutInt(b, -300) },
		"PutText":  func(b []byte) []byte { return PutText(b, "text") },
		"PutText0": func(b []byte) []byte { return PutText(b, "") },
		"Put32":    func(b []byte) []byte { return Put32(b, 7) },
		"PutFrame": func(b []byte) []byte { r, _ := PutFrame(b, api.Frame{Kind: 1, Data: []byte("hi")}); return r },
		"PutBatch": func(b []byte) []byte { r, _ := PutBatch(b, batch); return r },
	}
	for name, put := range puts {
		for _, s := range []string{"", "a", "what stands ahead"} {
			b, all := roomy(s)
			before := bytes.Clone(all)
			got := put(b)
			want := bytes.Clone(got)
			if !bytes.Equal(all, before) {
				t.Errorf("%s behind %q wrote: %x", name, s, all)
			}
			if !bytes.Equal(got, put([]byte(s))) {
				t.Errorf("%s behind %q hangs on the spare room: %x", name, s, got)
			}
			scribble(all)
			if !bytes.Equal(got, want) {
				t.Errorf("%s behind %q answers memory of its argument", name, s)
			}
			scribble(all)
			scribble(got)
			if !bytes.Equal(all, before) {
				t.Errorf("%s behind %q answers memory of its argument", name, s)
			}
		}
	}
}

// R4
func TestPutFrameLeavesData(t *testing.T) {
	data, all := roomy("data")
	before := bytes.Clone(all)
	got, _ := PutFrame(nil, api.Frame{Kind: 1, Data: data})
	scribble(got)
	if !bytes.Equal(all, before) {
		t.Errorf("PutFrame wrote: %x", all)
	}
}

// R4
func TestReadersLeaveWhatIsHandedIn(t *testing.T) {
	batch := laidBatch(api.Batch{Stream: "s", Key: "k", Events: []api.Event{with(api.Field{Name: "n", N: 5})}})
	for _, s := range []string{"", "\x03abc", string(laidFrame(1, []byte("hi"))), string(batch), ff(20)} {
		b, all := roomy(s)
		before := bytes.Clone(all)
		Uint(b)
		Int(b)
		word, _, _ := Text(b, 3)
		kept := string([]byte(word))
		U32(b)
		Sum(b)
		f, _, _ := Frame(b)
		frames, _ := Scan(b)
		Batch(b)
		scribble(f.Data)
		for _, f := range frames {
			scribble(f.Data)
		}
		if !bytes.Equal(all, before) {
			t.Errorf("reading %x wrote: %x", s, all)
		}
		scribble(all)
		if word != kept {
			t.Errorf("Text answers memory of its argument: %q", word)
		}
	}
}

// R4: no two lists of one answer share memory.
func TestScanSharesNothing(t *testing.T) {
	one, two := laidFrame(1, []byte("one")), laidFrame(2, []byte("two"))
	frames, _ := Scan(append(bytes.Clone(one), two...))
	if len(frames) != 2 {
		t.Fatalf("%d frames", len(frames))
	}
	scribble(frames[0].Data)
	if string(frames[1].Data) != "two" {
		t.Errorf("%q", frames[1].Data)
	}
	scribble(frames[0].Data)
	scribble(frames[1].Data)
	if string(frames[0].Data) != "one" {
		t.Errorf("%q", frames[0].Data)
	}
}

// scribbleFields writes over a list of fields, its spare room too.
func scribbleFields(list []api.Field) {
	list = list[:cap(list)]
	for i := range list {
		list[i] = api.Field{Name: "scribbled"}
	}
}

// R4
func TestBatchSharesNothing(t *testing.T) {
	one := []api.Field{{Name: "a", N: 1}, {Name: "b", Text: true, S: "x"}}
	two := []api.Field{{Name: "c", N: 2}}
	b := laidBatch(api.Batch{Stream: "s", Events: []api.Event{{Type: "t", Fields: one}, {Type: "u", Fields: two}}})
	for i := range 2 {
		x, e := Batch(b)
		if e != api.OK {
			t.Fatal(e)
		}
		scribble(b)
		if x.Stream != "s" || !sameEvent(x.Events[0], api.Event{Type: "t", Fields: one}) || !sameEvent(x.Events[1], api.Event{Type: "u", Fields: two}) {
			t.Errorf("Batch answers memory of its argument: %v", x)
		}
		scribble(b)
		scribbleFields(x.Events[i].Fields)
		if other, want := x.Events[1-i].Fields, [][]api.Field{two, one}[i]; !slices.Equal(other, want) {
			t.Errorf("two lists of fields share memory: %v", other)
		}
	}
}

// R4: a batch that is laid, or refused, and an event that is checked, stay as they are, spare room included.
func TestPutBatchLeavesBatch(t *testing.T) {
	for _, n := range []int{1, 2} { // with 2 the fields have one name
		fields := []api.Field{{Name: "n", N: 1}, {Name: "n", N: 2}, {Name: "spare", N: 3}}
		list := []api.Event{{Type: "t", Fields: fields[:n]}, {Type: "spare"}}
		PutBatch(nil, api.Batch{Stream: "s", Key: "k", Events: list[:1]})
		Check(list[0])
		if !slices.Equal(fields, []api.Field{{Name: "n", N: 1}, {Name: "n", N: 2}, {Name: "spare", N: 3}}) {
			t.Errorf("the fields: %v", fields)
		}
		if list[1].Type != "spare" || list[0].Type != "t" || len(list[0].Fields) != n || &list[0].Fields[0] != &fields[0] {
			t.Errorf("the events: %v", list)
		}
	}
}

// R1: every call takes no bytes, and zero values.
func TestNothingHandedIn(t *testing.T) {
	if b := PutUint(nil, 0); string(b) != "\x00" {
		t.Errorf("PutUint: %x", b)
	}
	if b := PutText(nil, ""); string(b) != "\x00" {
		t.Errorf("PutText: %x", b)
	}
	if b, e := PutFrame(nil, api.Frame{}); !bytes.Equal(b, laidFrame(0, nil)) || e != api.OK {
		t.Errorf("PutFrame: %x, %d", b, e)
	}
	if frames, k := Scan(nil); len(frames) != 0 || k != 0 {
		t.Errorf("Scan: %v, %d", frames, k)
	}
	if e := Check(api.Event{}); e != api.ErrCodecEvent {
		t.Errorf("Check: %d", e)
	}
	wantNoBatch(t, nil)
}
