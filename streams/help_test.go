package streams

import (
	"fmt"
	"slices"
	"strings"
	"testing"

	"cartulary/api"
	"cartulary/codec"
)

const (
	most  = 1<<63 - 1
	least = -1 << 63
)

// named is so many bytes; those of another seed are unlike, where there are two or more.
func named(seed, n int) string {
	b := make([]byte, n)
	for i := range b {
		b[i] = byte(seed*31 + i*7)
	}
	return string(b)
}

// event is one with so many fields, by turns an integer and a text; that of another seed is unlike.
func event(seed, fields int) api.Event {
	e := api.Event{Type: fmt.Sprint("type", seed), Version: seed & 1023}
	for i := range fields {
		f := api.Field{Name: fmt.Sprint("field", i), N: seed*100 + i}
		if i%2 == 1 {
			f = api.Field{Name: f.Name, Text: true, S: fmt.Sprint("text", seed, i)}
		}
		e.Fields = append(e.Fields, f)
	}
	return e
}

// events are so many, all unlike.
func events(seed, n int) []api.Event {
	var l []api.Event
	for i := range n {
		l = append(l, event(seed*20+i, i%4))
	}
	return l
}

// batch is one of so many events.
func batch(stream, key string, first, n int) api.Batch {
	return api.Batch{Stream: stream, Key: key, First: first, Events: events(first+n, n)}
}

// tellEvents is what is told of events.
func tellEvents(l []api.Event) string {
	b := &strings.Builder{}
	for _, e := range l {
		fmt.Fprintf(b, "%q version %d", e.Type, e.Version)
		for _, f := range e.Fields {
			fmt.Fprintf(b, ", %q %v %d %q", f.Name, f.Text, f.N, f.S)
		}
		b.WriteString("\n")
	}
	return b.String()
}

// tellEntries is what is told of entries.
func tellEntries(l []api.Entry) string {
	b := &strings.Builder{}
	for _, x := range l {
		fmt.Fprintf(b, "%d: %q %d: %s", x.Pos, x.Stream, x.Number, tellEvents([]api.Event{x.Event}))
	}
	return b.String()
}

// tellBatch is what is told of a batch.
func tellBatch(b api.Batch) string {
	return fmt.Sprintf("%q, key %q, from %d on:\n%s", b.Stream, b.Key, b.First, tellEvents(b.Events))
}

// model is what an index is to be, by the chapter's words: the batches that were added, and nothing beside them.
type model struct {
	batches []api.Batch
}

// entries are all events, in their places.
func (m *model) entries() []api.Entry {
	var all []api.Entry
	for _, b := range m.batches {
		for i, e := range b.Events {
			all = append(all, api.Entry{Pos: len(all), Stream: b.Stream, Number: b.First + i, Event: e})
		}
	}
	return all
}

// of are a stream's.
func (m *model) of(stream string) []api.Entry {
	var l []api.Entry
	for _, x := range m.entries() {
		if x.Stream == stream {
			l = append(l, x)
		}
	}
	return l
}

func (m *model) length() int {
	n := 0
	for _, b := range m.batches {
		n += len(b.Events)
	}
	return n
}

func (m *model) version(stream string) int {
	n := 0
	for _, b := range m.batches {
		if b.Stream == stream {
			n += len(b.Events)
		}
	}
	return n
}

func (m *model) keyed(key string) (string, api.Appended, bool) {
	pos := 0
	for _, b := range m.batches {
		if key != "" && b.Key == key {
			return b.Stream, api.Appended{First: b.First, Pos: pos, Count: len(b.Events)}, true
		}
		pos += len(b.Events)
	}
	return "", api.Appended{}, false
}

// names are those of all streams, rising byte by byte; keys are all keys.
func (m *model) names() []string {
	var l []string
	for _, b := range m.batches {
		if !slices.Contains(l, b.Stream) {
			l = append(l, b.Stream)
		}
	}
	slices.SortFunc(l, func(a, b string) int { return slices.Compare([]byte(a), []byte(b)) })
	return l
}

func (m *model) keys() []string {
	var l []string
	for _, b := range m.batches {
		if b.Key != "" {
			l = append(l, b.Key)
		}
	}
	return l
}

func wrongEvents(l []api.Event) bool {
	for _, e := range l {
		if codec.Check(e) != api.OK {
			return true
		}
	}
	return len(l) < 1 || len(l) > 16
}

func wrongNames(stream, key string) bool { return len(stream) < 1 || len(stream) > 60 || len(key) > 60 }

func (m *model) try(stream string, expected int, key string, l []api.Event) (api.Appended, api.Batch, api.Errno) {
	none := api.Appended{}
	if wrongNames(stream, key) {
		return none, api.Batch{}, api.ErrStreamName
	}
	if owner, was, there := m.keyed(key); there {
		if owner != stream {
			return none, api.Batch{}, api.ErrStreamKey
		}
		was.Again = true
		return was, api.Batch{}, api.OK
	}
	if wrongEvents(l) {
		return none, api.Batch{}, api.ErrStreamEvents
	}
	if expected < -1 {
		return none, api.Batch{}, api.ErrArg
	}
	n := m.version(stream)
	if expected >= 0 && expected != n {
		return none, api.Batch{}, api.ErrStreamVersion
	}
	return api.Appended{First: n, Pos: m.length(), Count: len(l)}, api.Batch{Stream: stream, Key: key, First: n, Events: l}, api.OK
}

func (m *model) add(b api.Batch) api.Errno {
	if wrongNames(b.Stream, b.Key) {
		return api.ErrStreamName
	}
	if _, _, there := m.keyed(b.Key); there {
		return api.ErrStreamKey
	}
	if wrongEvents(b.Events) {
		return api.ErrStreamEvents
	}
	if b.First != m.version(b.Stream) {
		return api.ErrStreamVersion
	}
	m.batches = append(m.batches, api.Batch{Stream: b.Stream, Key: b.Key, First: b.First, Events: deep(b.Events)})
	return api.OK
}

// deep are events that share no memory with others.
func deep(l []api.Event) []api.Event {
	l = slices.Clone(l)
	for i := range l {
		l[i].Fields = slices.Clone(l[i].Fields)
	}
	return l
}

// cut is a list from a place on, most of it, taken one by one.
func cut(l []api.Entry, from, most int) []api.Entry {
	var to []api.Entry
	for i, x := range l {
		if i >= from && len(to) < most {
			to = append(to, x)
		}
	}
	return to
}

// world is an index, and what it is to be.
type world struct {
	t testing.TB
	x *Index
	m *model
}

func begin(t testing.TB) *world { return &world{t, New(), &model{}} }

// grown is one with streams, keys and batches of several lengths.
func grown(t testing.TB) *world {
	t.Helper()
	w := begin(t)
	for _, b := range []api.Batch{
		batch("a", "k", 0, 2), batch("b", "", 0, 1), batch("a", "", 2, 3), batch("c", "kc", 0, 16), batch("b", "kb", 1, 5), batch("a", "k2", 5, 1), batch("ab", "a", 0, 4),
	} {
		w.adds(b)
	}
	return w
}

// try tries, which must be answered as it is to be.
func (w *world) try(stream string, expected int, key string, l []api.Event) (api.Appended, api.Batch, api.Errno) {
	w.t.Helper()
	a, b, e := w.x.Try(stream, expected, key, l)
	wa, wb, we := w.m.try(stream, expected, key, l)
	if a != wa || e != we || tellBatch(b) != tellBatch(wb) {
		w.t.Fatalf("Try(%q, %d, %q, %d events): %v, %s, %d; not %v, %s, %d", stream, expected, key, len(l), a, tellBatch(b), e, wa, tellBatch(wb), we)
	}
	return a, b, e
}

// add adds, which must be answered as it is to be.
func (w *world) add(b api.Batch) api.Errno {
	w.t.Helper()
	e, want := w.x.Add(b), w.m.add(b)
	if e != want {
		w.t.Fatalf("Add(%s): %d, not %d", tellBatch(b), e, want)
	}
	return e
}

// adds adds, and that goes well.
func (w *world) adds(b api.Batch) {
	w.t.Helper()
	if e := w.add(b); e != api.OK {
		w.t.Fatalf("Add(%s): %d", tellBatch(b), e)
	}
}

// refuses asks that an Add is answered by that error, and changes nothing.
func (w *world) refuses(b api.Batch, want api.Errno) {
	w.t.Helper()
	if e := w.add(b); e != want {
		w.t.Errorf("Add(%s): %d, not %d", tellBatch(b), e, want)
	}
	w.is(b.Stream, b.Key)
}

// stream and all ask for entries, which must be those that there are.
func (w *world) stream(name string, from, most int) {
	w.t.Helper()
	l, e := w.x.Stream(name, from, most)
	w.same(fmt.Sprintf("Stream(%q, %d, %d)", name, from, most), l, e, w.m.of(name), from, most)
}

func (w *world) all(from, most int) {
	w.t.Helper()
	l, e := w.x.All(from, most)
	w.same(fmt.Sprintf("All(%d, %d)", from, most), l, e, w.m.entries(), from, most)
}

func (w *world) same(call string, l []api.Entry, e api.Errno, of []api.Entry, from, most int) {
	w.t.Helper()
	want, we := cut(of, from, most), api.OK
	if from < 0 || most < 0 {
		want, we = nil, api.ErrArg
	}
	if e != we || tellEntries(l) != tellEntries(want) {
		w.t.Fatalf("%s: %d,\n%snot %d,\n%s", call, e, tellEntries(l), we, tellEntries(want))
	}
}

// is asks whether all that is told is as it is to be; of other names and keys too.
func (w *world) is(others ...string) {
	w.t.Helper()
	if n, want := w.x.Len(), w.m.length(); n != want {
		w.t.Fatalf("Len: %d, not %d", n, want)
	}
	if l, want := w.x.Names(), w.m.names(); !slices.Equal(l, want) {
		w.t.Fatalf("Names: %q, not %q", l, want)
	}
	w.all(0, most)
	for _, name := range slices.Concat(w.m.names(), others, []string{"", "not there"}) {
		w.stream(name, 0, most)
		if n, want := w.x.Version(name), w.m.version(name); n != want {
			w.t.Fatalf("Version(%q): %d, not %d", name, n, want)
		}
	}
	for _, key := range slices.Concat(w.m.keys(), others, []string{"", "not there"}) {
		s, a, ok := w.x.Keyed(key)
		if ws, wa, want := w.m.keyed(key); s != ws || a != wa || ok != want {
			w.t.Fatalf("Keyed(%q): %q, %v, %v; not %q, %v, %v", key, s, a, ok, ws, wa, want)
		}
	}
}
