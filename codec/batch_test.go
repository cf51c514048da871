package codec

import (
	"bytes"
	"math"
	"math/rand"
	"strings"
	"testing"

	"cartulary/api"
)

func text(n int) string { return strings.Repeat("x", n) }

// distinct is n integer fields of unlike names.
func distinct(n int) []api.Field {
	var fields []api.Field
	for i := range n {
		fields = append(fields, api.Field{Name: "f" + string([]byte{byte(i)}), N: i})
	}
	return fields
}

func events(n int) []api.Event {
	list := make([]api.Event, n)
	for i := range list {
		list[i] = api.Event{Type: "t", Version: i}
	}
	return list
}

// with is the event of type t with that field.
func with(f api.Field) api.Event { return api.Event{Type: "t", Fields: []api.Field{f}} }

func sameEvent(a, b api.Event) bool {
	same := a.Type == b.Type && a.Version == b.Version && len(a.Fields) == len(b.Fields)
	for i := 0; same && i < len(a.Fields); i++ {
		same = a.Fields[i] == b.Fields[i]
	}
	return same
}

func sameBatch(a, b api.Batch) bool {
	same := a.Stream == b.Stream && a.Key == b.Key && a.First == b.First && len(a.Events) == len(b.Events)
	for i := 0; same && i < len(a.Events); i++ {
		same = sameEvent(a.Events[i], b.Events[i])
	}
	return same
}

// laidBatch is a batch's bytes, laid without asking whether it may be.
func laidBatch(x api.Batch) []byte {
	b := PutText(PutText(nil, x.Stream), x.Key)
	b = PutUint(PutUint(b, uint64(x.First)), uint64(len(x.Events)))
	for _, e := range x.Events {
		b = PutUint(PutUint(PutText(b, e.Type), uint64(e.Version)), uint64(len(e.Fields)))
		for _, f := range e.Fields {
			b = PutText(b, f.Name)
			if f.Text {
				b = PutText(append(b, 1), f.S)
			} else {
				b = PutInt(append(b, 0), f.N)
			}
		}
	}
	return b
}

// batchOf is a batch that is laid in n bytes, n from 300 on.
func batchOf(t *testing.T, n int) api.Batch {
	t.Helper()
	x := api.Batch{Stream: "s", Key: "k", First: 9}
	for len(x.Events) < api.MaxEvents {
		x.Events = append(x.Events, with(api.Field{Name: "f", Text: true, S: text(130)}))
		lacking := n - len(laidBatch(x))
		if last := &x.Events[len(x.Events)-1].Fields[0]; lacking < 0 && lacking >= -100 || lacking >= 0 && lacking <= 70 {
			last.S = text(130 + lacking)
			if have := len(laidBatch(x)); have < n {
				last.Name = "f" + text(n-have)
			} else if have > n {
				t.Fatalf("%d bytes, not %d", have, n)
			}
			return x
		}
	}
	t.Fatalf("no batch of %d bytes", n)
	return x
}

// allowed has events that may be, at the edges.
func allowed() []api.Event {
	many := api.Event{Type: "t", Fields: distinct(api.MaxFields)}
	return []api.Event{
		{Type: "t"}, {Type: text(60), Version: 1}, {Type: "\x00", Version: api.MaxVersion}, {Type: "\xff\xfe", Fields: []api.Field{}},
		with(api.Field{Name: "n"}), with(api.Field{Name: "n", N: -1}), with(api.Field{Name: "n", N: math.MinInt64}), with(api.Field{Name: "n", N: math.MaxInt64}),
		with(api.Field{Name: text(60), N: 1}), with(api.Field{Name: "s", Text: true}), with(api.Field{Name: "s", Text: true, S: text(200)}),
		with(api.Field{Name: "\x00", Text: true, S: "\xff\x00"}), many,
		{Type: "t", Fields: []api.Field{{Name: "t"}, {Name: "T"}, {Name: "t "}, {Name: "tt", Text: true, S: "t"}}},
	}
}

// refused has events that may not be, each by one thing alone.
func refused() []api.Event {
	twice := distinct(api.MaxFields)
	twice[15].Name = twice[0].Name
	return []api.Event{
		{Type: ""}, {Type: text(61)}, {Type: text(1000)},
		{Type: "t", Version: -1}, {Type: "t", Version: api.MaxVersion + 1}, {Type: "t", Version: math.MinInt}, {Type: "t", Version: math.MaxInt},
		{Type: "t", Fields: distinct(api.MaxFields + 1)}, {Type: "t", Fields: twice},
		{Type: "t", Fields: []api.Field{{Name: "n", N: 1}, {Name: "n", N: 1}}},
		{Type: "t", Fields: []api.Field{{Name: "n", N: 1}, {Name: "m"}, {Name: "n", Text: true, S: "x"}}},
		with(api.Field{Name: ""}), with(api.Field{Name: text(61)}), with(api.Field{Name: "", Text: true, S: "x"}), with(api.Field{Name: text(61), Text: true}),
		with(api.Field{Name: "s", Text: true, S: text(201)}), with(api.Field{Name: "s", Text: true, N: 1}), with(api.Field{Name: "s", Text: true, S: "x", N: -1}),
		with(api.Field{Name: "n", S: "x"}), with(api.Field{Name: "n", N: 5, S: "x"}),
		{Type: "t", Fields: []api.Field{{Name: "n"}, {Name: "m", S: "x"}}},
	}
}

// P1.6
func TestCheck(t *testing.T) {
	for i, e := range allowed() {
		if c := Check(e); c != api.OK {
			t.Errorf("allowed %d, %.100v: %d", i, e, c)
		}
	}
	for i, e := range refused() {
		if c := Check(e); c != api.ErrCodecEvent {
			t.Errorf("refused %d, %.100v: %d", i, e, c)
		}
	}
}

// P1.7: byte by byte.
func TestBatchBytes(t *testing.T) {
	for _, row := range []struct {
		x    api.Batch
		laid string
	}{
		{api.Batch{Stream: "a", Events: events(1)}, "\x01a\x00\x00\x01\x01t\x00\x00"},
		{api.Batch{Stream: "ab", Key: "key", First: 300, Events: []api.Event{
			{Type: "t", Version: 1, Fields: []api.Field{{Name: "n", N: -1}, {Name: "s", Text: true, S: "v"}}},
			{Type: "uu", Version: 128, Fields: []api.Field{{Name: "mm", N: 64}, {Name: "e", Text: true}}},
		}}, "\x02ab\x03key\xac\x02\x02\x01t\x01\x02\x01n\x00\x01\x01s\x01\x01v\x02uu\x80\x01\x02\x02mm\x00\x80\x01\x01e\x01\x00"},
		{api.Batch{Stream: "a", First: 1 << 40, Events: []api.Event{{Type: "t", Version: 1 << 30}}}, "\x01a\x00\x80\x80\x80\x80\x80\x20\x01\x01t\x80\x80\x80\x80\x04\x00"},
	} {
		b, e := PutBatch([]byte("zz"), row.x)
		if e != api.OK || string(b) != "zz"+row.laid {
			t.Errorf("PutBatch: %x, %d; not %x", b, e, row.laid)
		}
		if x, e := Batch([]byte(row.laid)); e != api.OK || !sameBatch(x, row.x) {
			t.Errorf("Batch: %v, %d", x, e)
		}
	}
}

// goodBatches has batches that may be, at the edges.
func goodBatches(t *testing.T) []api.Batch {
	list := []api.Batch{
		{Stream: text(60), Key: text(60), First: 1 << 40, Events: events(1)},
		{Stream: "\x00", Key: "\xff", First: 1<<40 - 1, Events: events(16)},
		batchOf(t, 1999), batchOf(t, api.MaxFrame),
	}
	for _, e := range allowed() {
		list = append(list, api.Batch{Stream: "s", Events: []api.Event{e}}, api.Batch{Stream: "s", Key: "k", First: 1, Events: []api.Event{e, {Type: "t"}}})
	}
	return list
}

// P1.7, P1.8: what is laid is read again, and one byte more or less is no batch.
func TestBatchReadAgain(t *testing.T) {
	for i, x := range goodBatches(t) {
		b, e := PutBatch(nil, x)
		if e != api.OK || !bytes.Equal(b, laidBatch(x)) {
			t.Errorf("%d: PutBatch: %d bytes, %d", i, len(b), e)
			continue
		}
		if y, e := Batch(b); e != api.OK || !sameBatch(x, y) {
			t.Errorf("%d: Batch: %.100v, %d", i, y, e)
		}
		for cut := range len(b) {
			wantNoBatch(t, b[:cut])
		}
		for _, behind := range []string{"\x00", "\x01", "\xff", string(b)} {
			wantNoBatch(t, append(bytes.Clone(b), behind...))
		}
	}
}

func wantNoBatch(t *testing.T, b []byte) {
	t.Helper()
	if x, e := Batch(b); !sameBatch(x, api.Batch{}) || e != api.ErrCodecForm {
		t.Errorf("Batch of %d bytes %.60x: %.100v, %d", len(b), b, x, e)
	}
}

func wantRefused(t *testing.T, x api.Batch, want api.Errno) {
	t.Helper()
	if b, e := PutBatch([]byte("zz"), x); len(b) != 0 || e != want {
		t.Errorf("PutBatch of %.100v: %x, %d, not %d", x, b, e, want)
	}
}

// P1.7: batches that may not be are not laid, and their bytes are not read.
func TestBatchForm(t *testing.T) {
	for _, x := range []api.Batch{
		{Events: events(1)}, {Stream: text(61), Events: events(1)}, {Stream: "s", Key: text(61), Events: events(1)},
		{Stream: "s", First: -1, Events: events(1)}, {Stream: "s", First: 1<<40 + 1, Events: events(1)},
		{Stream: "s", First: math.MinInt, Events: events(1)}, {Stream: "s", First: math.MaxInt, Events: events(1)},
		{Stream: "s"}, {Stream: "s", Events: []api.Event{}}, {Stream: "s", Events: events(17)}, {},
	} {
		wantRefused(t, x, api.ErrCodecForm)
		wantNoBatch(t, laidBatch(x))
	}
}

// P1.7
func TestBatchEvent(t *testing.T) {
	for _, bad := range refused() {
		for _, list := range [][]api.Event{{bad}, append(events(15), bad), {bad, {Type: "t"}}} {
			wantRefused(t, api.Batch{Stream: "s", Events: list}, api.ErrCodecEvent)
		}
		if f := bad.Fields; len(f) > 0 && (f[len(f)-1].Text && f[len(f)-1].N != 0 || !f[len(f)-1].Text && f[len(f)-1].S != "") {
			continue // what is wrong with it is not laid
		}
		wantNoBatch(t, laidBatch(api.Batch{Stream: "s", Events: []api.Event{bad}}))
	}
}

// P1.7: just MaxFrame bytes are laid, whatever stands ahead; one more is not.
func TestBatchLong(t *testing.T) {
	ahead := make([]byte, 5000)
	if b, e := PutBatch(ahead, batchOf(t, api.MaxFrame)); len(b) != 7000 || e != api.OK {
		t.Errorf("%d bytes, %d", len(b), e)
	}
	full := api.Batch{Stream: "s", Events: make([]api.Event, 16)}
	for i := range full.Events {
		full.Events[i] = api.Event{Type: "t", Fields: distinct(16)}
		for j := range full.Events[i].Fields {
			full.Events[i].Fields[j] = api.Field{Name: full.Events[i].Fields[j].Name, Text: true, S: text(200)}
		}
	}
	for _, x := range []api.Batch{batchOf(t, api.MaxFrame+1), full} {
		wantRefused(t, x, api.ErrCodecLong)
		wantNoBatch(t, laidBatch(x))
	}
}

// P1.7, R2: of several errors the first named one.
func TestBatchErrorsInOrder(t *testing.T) {
	long := batchOf(t, api.MaxFrame+1)
	long.Events[0].Version = -1
	wantRefused(t, long, api.ErrCodecEvent)
	long.Stream = ""
	wantRefused(t, long, api.ErrCodecForm)
	wantRefused(t, api.Batch{Stream: "s", First: -1, Events: []api.Event{{}}}, api.ErrCodecForm)
	wantRefused(t, api.Batch{Stream: "s", Events: make([]api.Event, 17)}, api.ErrCodecForm)
}

// P1.7: bytes of which no batch is laid.
func TestBatchWrongBytes(t *testing.T) {
	for _, s := range []string{
		"", "\x00", "\x01", "\x01a", ff(30), "\x80\x00", "a",
		"\x81\x00a\x00\x00\x01\x01t\x00\x00",                               // a number's last byte 0 behind another
		"\x01a\x80\x00\x00\x01\x01t\x00\x00",                               // the same of Key
		"\x01a\x00\x80\x00\x01\x01t\x00\x00",                               // of First
		"\x01a\x00\x00\x81\x00\x01t\x00\x00",                               // of how many events
		"\x01a\x00\x00\x01\x01t\x80\x00\x00",                               // of Version
		"\x01a\x00\x00\x01\x01t\x00\x80\x00",                               // of how many fields
		"\x01a\x00" + ff(9) + "\x01\x01\x01t\x00\x00",                      // First of 2^64 - 1
		"\x01a\x00\x00\x01\x01t" + ff(9) + "\x01\x00",                      // a Version of as much
		"\x01a\x00\x00" + ff(9) + "\x01\x01t\x00\x00",                      // as many events
		"\x01a\x00\x00\x01\x01t\x00" + ff(9) + "\x01",                      // as many fields
		"\x01a\x00\x00\x01\x01t\x00\x01\x01n\x02\x00",                      // neither an integer nor a text
		"\x01a\x00\x00\x01\x01t\x00\x01\x01n\x80\x00\x00",                  // a mark of two bytes
		"\x01a\x00\x00\x01\x01t\x00\x01\x01n\xff\x00",                      //
		"\x01a\x00\x00\x01\x01t\x00\x01\x01n\x00\x80\x00",                  // an integer's last byte 0
		"\x01a\x00\x00\x01\x01t\x00\x01\x01n\x00" + ff(9) + "\x02",         // an integer's tenth byte above 1
		"\x01a\x00\x00\x01\x01t\x00\x01\x01n\x01\xc9\x01" + text(201),      // a text of 201 bytes
		"\x01a\x00\x00\x01\x01t\x00\x02\x01n\x00\x00\x01n\x00\x02",         // two of one name
		"\x01a\x00\x00\x02\x01t\x00\x00", "\x01a\x00\x00\x00\x01t\x00\x00", // too few events, too many
	} {
		wantNoBatch(t, []byte(s))
	}
}

// P1.7, P1.8: whatever Batch reads, PutBatch lays just those bytes.
func TestBatchOfTurnedBytes(t *testing.T) {
	x := api.Batch{Stream: "ab", Key: "k", First: 5, Events: []api.Event{with(api.Field{Name: "n", N: 77}), with(api.Field{Name: "s", Text: true, S: "vw"})}}
	b := laidBatch(x)
	others := 0
	for i := range b {
		for c := range 256 {
			turned := bytes.Clone(b)
			turned[i] = byte(c)
			y, e := Batch(turned)
			if e == api.OK && (!bytes.Equal(laidBatch(y), turned) || sameBatch(x, y) != bytes.Equal(b, turned)) || e != api.OK && e != api.ErrCodecForm {
				t.Fatalf("%x: %v, %d", turned, y, e)
			}
			if e == api.OK {
				others++
			}
		}
	}
	if others < 1000 {
		t.Errorf("only %d are batches", others)
	}
}

// P1.8: unlike batches are laid otherwise.
func TestUnlikeBatches(t *testing.T) {
	rnd := rand.New(rand.NewSource(3))
	words := []string{"", "a", "b", "ab", "\x00", "\x01a"}
	seen := map[string]api.Batch{}
	laid := 0
	for range 20000 {
		x := api.Batch{Stream: words[rnd.Intn(6)], Key: words[rnd.Intn(6)], First: rnd.Intn(3), Events: events(1 + rnd.Intn(2))}
		for i := range x.Events {
			f := api.Field{Name: words[rnd.Intn(6)], Text: rnd.Intn(2) == 0}
			if f.Text {
				f.S = words[rnd.Intn(6)]
			} else {
				f.N = rnd.Intn(5) - 2
			}
			x.Events[i] = api.Event{Type: words[rnd.Intn(6)], Version: rnd.Intn(2), Fields: []api.Field{f}[:rnd.Intn(2)]}
		}
		b, e := PutBatch(nil, x)
		if e != api.OK {
			continue
		}
		laid++
		if y, there := seen[string(b)]; there && !sameBatch(x, y) {
			t.Fatalf("%v and %v are laid alike", x, y)
		}
		seen[string(b)] = x
		if y, e := Batch(b); e != api.OK || !sameBatch(x, y) {
			t.Fatalf("%v: %v, %d", x, y, e)
		}
	}
	if laid < 5000 || len(seen) < 1000 {
		t.Errorf("%d were laid, %d of them unlike", laid, len(seen))
	}
}
