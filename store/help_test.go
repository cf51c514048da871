package store

import (
	"crypto/sha256"
	"fmt"
	"maps"
	"math/rand"
	"slices"
	"strconv"
	"strings"
	"testing"

	"cartulary/api"
	"cartulary/blockdev"
	"cartulary/codec"
	"cartulary/fsdir"
)

const (
	most  = 1<<63 - 1
	least = -1 << 63
)

// device is a new one, of noughts.
func device(t testing.TB, blocks int) *blockdev.Device {
	t.Helper()
	d, e := blockdev.New(blocks)
	if e != api.OK {
		t.Fatalf("New(%d): %v", blocks, e)
	}
	return d
}

// laid is a device with an empty store.
func laid(t testing.TB, blocks int) *blockdev.Device {
	t.Helper()
	d := device(t, blocks)
	if e := Format(d); e != api.OK {
		t.Fatalf("Format: %v", e)
	}
	return d
}

// open opens the store of a device, and that goes well.
func open(t testing.TB, d *blockdev.Device) *Store {
	t.Helper()
	s, e := Open(d)
	if s == nil || e != api.OK {
		t.Fatalf("Open: %v", e)
	}
	return s
}

// mount mounts the file system of a device, and that goes well.
func mount(t testing.TB, d *blockdev.Device) *fsdir.FS {
	t.Helper()
	v, e := fsdir.Mount(d)
	if v == nil || e != api.OK {
		t.Fatalf("Mount: %v", e)
	}
	return v
}

// text is so many bytes; those of another seed are unlike, where there are some.
func text(seed, n int) string {
	b := make([]byte, n)
	for i := range b {
		b[i] = byte(seed*31 + i*7 + i/256)
	}
	return string(b)
}

// event is one with so many fields, by turns an integer and a text; that of another seed is unlike.
func event(seed, fields int) api.Event {
	e := api.Event{Type: fmt.Sprint("type", seed), Version: seed & 1023}
	for i := range fields {
		f := api.Field{Name: fmt.Sprint("field", i), N: seed*100 + i}
		if i%2 == 1 {
			f = api.Field{Name: f.Name, Text: true, S: fmt.Sprint("text", seed, i)}
		}
		e.Fields = append(e.Fields, f)
	}
	return e
}

// events are so many, all unlike.
func events(seed, n int) []api.Event {
	var l []api.Event
	for i := range n {
		l = append(l, event(seed*20+i, i%4))
	}
	return l
}

// sized are these events, and one behind them, whose batch has just so many bytes: as many as without the fields of the last one, or at least 4 more.
func sized(stream, key string, first, bytes int, before ...api.Event) []api.Event {
	last := api.Event{Type: "t"}
	b, _ := codec.PutBatch(nil, api.Batch{Stream: stream, Key: key, First: first, Events: append(slices.Clone(before), last)})
	for rest := bytes - len(b); rest > 0; {
		n := min(rest-4, 127) // a text so short has one byte for its length
		if over := rest - 4 - n; over > 0 && over < 4 {
			n -= 4
		}
		last.Fields = append(last.Fields, api.Field{Name: string(rune('a' + len(last.Fields))), Text: true, S: text(n, n)})
		rest -= 4 + n
	}
	return append(slices.Clone(before), last)
}

// tellEvents is what is told of events.
func tellEvents(l []api.Event) string {
	b := &strings.Builder{}
	for _, e := range l {
		fmt.Fprintf(b, "%q version %d", e.Type, e.Version)
		for _, f := range e.Fields {
			fmt.Fprintf(b, ", %q %v %d %q", f.Name, f.Text, f.N, f.S)
		}
		b.WriteString("\n")
	}
	return b.String()
}

// tellEntries is what is told of entries.
func tellEntries(l []api.Entry) string {
	b := &strings.Builder{}
	for _, x := range l {
		fmt.Fprintf(b, "%d: %q %d: %s", x.Pos, x.Stream, x.Number, tellEvents([]api.Event{x.Event}))
	}
	return b.String()
}

// tellStreams is what is told of a store's streams, without what is saved.
func tellStreams(t testing.TB, s *Store, keys, others []string) string {
	t.Helper()
	b := &strings.Builder{}
	all, e := s.All(0, most)
	if e != api.OK || len(all) != s.Length() {
		t.Fatalf("All: %d events of %d, %v", len(all), s.Length(), e)
	}
	b.WriteString(tellEntries(all))
	for _, name := range slices.Concat(s.Streams(), others) {
		l, e := s.Stream(name, 0, most)
		if e != api.OK {
			t.Fatalf("Stream(%q): %v", name, e)
		}
		fmt.Fprintf(b, "%q has %d:\n%s", name, s.Version(name), tellEntries(l))
	}
	for _, key := range slices.Concat(keys, others) {
		stream, a, ok := s.Keyed(key)
		fmt.Fprintf(b, "key %q: %q, %v, %v\n", key, stream, a, ok)
	}
	return b.String()
}

// tell is what is told of a store: of its streams, of keys, of what is saved; of other names and keys too. It is told as a model's want is.
func tell(t testing.TB, s *Store, keys []string, others ...string) string {
	t.Helper()
	b := &strings.Builder{}
	fmt.Fprintf(b, "%d events, streams %q, names %q\n", s.Length(), s.Streams(), s.Names())
	b.WriteString(tellStreams(t, s, keys, others))
	for _, name := range slices.Concat(s.Names(), others) {
		data, e := s.Saved(name)
		fmt.Fprintf(b, "saved %q: %q, %d\n", name, data, e)
	}
	return b.String()
}

// brief is the beginning of a text, and its end.
func brief(s string) string {
	if len(s) > 2000 {
		return strconv.Quote(s[:1000]) + " .. " + strconv.Quote(s[len(s)-1000:])
	}
	return strconv.Quote(s)
}

// world is a store, and what it is to be.
type world struct {
	t testing.TB
	d *blockdev.Device
	s *Store
	m *model
}

// begin is an empty store.
func begin(t testing.TB, blocks int) *world {
	t.Helper()
	d := laid(t, blocks)
	return &world{t, d, open(t, d), &model{blocks: blocks, saved: map[string]string{}}}
}

// grown is one with streams, keys and batches of several lengths, and some things that are saved.
func grown(t testing.TB, blocks int) *world {
	t.Helper()
	w := begin(t, blocks)
	w.adds("a", "k", 2)
	w.adds("b", "", 1)
	w.saves("one", text(1, 600))
	w.adds("a", "", 3)
	w.adds("c", "kc", 16)
	w.saves("empty", "")
	w.adds("b", "kb", 5)
	w.adds("a", "k2", 1)
	w.saves("two", text(2, 30))
	w.adds("ab", "a", 4)
	return w
}

// again is the same on a copy of its device.
func (w *world) again() *world {
	w.t.Helper()
	d := w.d.Copy()
	return &world{w.t, d, open(w.t, d), w.m.copy()}
}

// append appends, which must be answered as it is to be.
func (w *world) append(stream string, expected int, key string, l []api.Event) (api.Appended, api.Errno) {
	w.t.Helper()
	a, e := w.s.Append(stream, expected, key, l)
	wa, we := w.m.append(stream, expected, key, l)
	if a != wa || e != we {
		w.t.Fatalf("Append(%q, %d, %q, %d events): %v, %d; not %v, %d", stream, expected, key, len(l), a, e, wa, we)
	}
	return a, e
}

// adds appends so many events, and that goes well.
func (w *world) adds(stream, key string, n int) {
	w.t.Helper()
	if _, e := w.append(stream, w.m.version(stream), key, events(w.m.length(), n)); e != api.OK {
		w.t.Fatalf("Append(%q, %d events): %v", stream, n, e)
	}
}

// save saves, which must be answered as it is to be.
func (w *world) save(name, data string) api.Errno {
	w.t.Helper()
	e, want := w.s.Save(name, []byte(data)), w.m.save(name, data)
	if e != want {
		w.t.Fatalf("Save(%q, %d bytes): %d, not %d", name, len(data), e, want)
	}
	return e
}

// saves saves, and that goes well.
func (w *world) saves(name, data string) {
	w.t.Helper()
	if e := w.save(name, data); e != api.OK {
		w.t.Fatalf("Save(%q, %d bytes): %v", name, len(data), e)
	}
}

// drop drops, which must be answered as it is to be.
func (w *world) drop(name string) api.Errno {
	w.t.Helper()
	e, want := w.s.Drop(name), w.m.drop(name)
	if e != want {
		w.t.Fatalf("Drop(%q): %d, not %d", name, e, want)
	}
	return e
}

// leave saves what leaves so many blocks free.
func (w *world) leave(blocks int) {
	w.t.Helper()
	for i := 0; w.m.free() > blocks; i++ {
		if name := fmt.Sprint("fill", i); w.m.saved[name] == "" {
			w.saves(name, text(i, 512*min(15, w.m.free()-blocks)))
		}
	}
	if w.m.free() != blocks {
		w.t.Fatalf("%d free, not %d", w.m.free(), blocks)
	}
}

// reopen lets the device crash, and opens the store anew.
func (w *world) reopen(picks ...int) {
	w.t.Helper()
	w.d.Crash(picks)
	w.s = open(w.t, w.d)
}

// is asks whether all that is told is as it is to be, also of other names and keys; and whether the files are, behind a crash too.
func (w *world) is(others ...string) {
	w.t.Helper()
	others = append(others, "", "not there")
	if got, want := tell(w.t, w.s, w.m.keys(), others...), w.m.want(w.m.keys(), others...); got != want {
		w.t.Fatalf("%s\nnot\n%s", brief(got), brief(want))
	}
	for _, picks := range [][]int{nil, slices.Repeat([]int{1}, w.d.Blocks())} {
		c := w.d.Copy()
		c.Crash(picks)
		if got, want := filesOf(w.t, c), w.m.files(); !maps.Equal(got, want) {
			w.t.Fatalf("the files are %s\nnot\n%s", brief(fmt.Sprintf("%q", got)), brief(fmt.Sprintf("%q", want)))
		}
	}
}

// filesOf are what the files of a device have.
func filesOf(t testing.TB, d *blockdev.Device) map[string]string {
	t.Helper()
	v := mount(t, d)
	all := map[string]string{}
	for _, name := range v.List() {
		data, e := v.Read(name, 0, 40000)
		if e != api.OK {
			t.Fatalf("Read(%q): %v", name, e)
		}
		all[name] = string(data)
	}
	return all
}

// deep is one beyond how many writes of a block are pending in these tests at most.
const deep = 4

// crashes are a device's copies behind each crash that there can be, or, where these are many, behind the plainest ones and some that a fixed seed picks.
func crashes(d *blockdev.Device) []*blockdev.Device {
	var all []*blockdev.Device
	for _, picks := range ways(len(d.Pending())) {
		c := d.Copy()
		c.Crash(picks)
		all = append(all, c)
	}
	return all
}

// ways are the picks of so many blocks.
func ways(blocks int) [][]int {
	all := [][]int{{}}
	if blocks <= 2 {
		for range blocks {
			var more [][]int
			for _, picks := range all {
				for pick := range deep {
					more = append(more, append(slices.Clone(picks), pick))
				}
			}
			all = more
		}
		return all
	}
	for pick := 1; pick < deep; pick++ {
		all = append(all, slices.Repeat([]int{pick}, blocks))
	}
	for _, i := range []int{0, 1, blocks / 2, blocks - 1} {
		alone, lacking := make([]int, blocks), slices.Repeat([]int{1}, blocks)
		alone[i], lacking[i] = 1, 0
		all = append(all, alone, lacking)
	}
	r := rand.New(rand.NewSource(int64(blocks)))
	for range 5 {
		picks := make([]int, blocks)
		for i := range picks {
			picks[i] = r.Intn(deep)
		}
		all = append(all, picks)
	}
	return all
}

// known are devices with nothing pending, by what they are: those that stand alike go on alike.
type known map[[32]byte]int

// has tells whether a device was there, and adds it. What else is to be asked of it is told too.
func (k known) has(t testing.TB, d *blockdev.Device, asked ...any) bool {
	t.Helper()
	if len(d.Pending()) > 0 {
		t.Fatalf("pending %v", d.Pending())
	}
	h := sha256.New()
	fmt.Fprintf(h, "%q", asked)
	c := d.Copy()
	for n := range c.Blocks() {
		b, e := c.Read(n)
		if e != api.OK {
			t.Fatalf("Read(%d): %v", n, e)
		}
		h.Write(b)
	}
	key := [32]byte(h.Sum(nil))
	k[key]++
	return k[key] > 1
}
