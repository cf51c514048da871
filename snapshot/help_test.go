package snapshot

import (
	"crypto/sha256"
	"fmt"
	"maps"
	"math/rand"
	"slices"
	"strings"
	"testing"

	"cartulary/api"
	"cartulary/blockdev"
	"cartulary/store"
)

const (
	most  = 1<<63 - 1
	least = -1 << 63
)

// num, txt, st, gv, self are expressions without Args; ex is one with them.
func num(n int) api.Expr { return api.Expr{Kind: api.EInt, N: n} }

func txt(s string) api.Expr { return api.Expr{Kind: api.EText, S: s} }

func st(name string) api.Expr { return api.Expr{Kind: api.EState, S: name} }

func gv(name string) api.Expr { return api.Expr{Kind: api.EGiven, S: name} }

func self() api.Expr { return api.Expr{Kind: api.ESelf} }

func ex(kind int, args ...api.Expr) api.Expr { return api.Expr{Kind: kind, Args: args} }

// as is an assignment, does an Evolve.
func as(name string, e api.Expr) api.Assign { return api.Assign{Name: name, E: e} }

func does(kind string, l ...api.Assign) api.Evolve { return api.Evolve{Type: kind, Sets: l} }

func table(l ...api.Evolve) api.Rules { return api.Rules{Evolves: l} }

func number(name string, n int) api.Field { return api.Field{Name: name, N: n} }

func words(name, s string) api.Field { return api.Field{Name: name, Text: true, S: s} }

func event(kind string, version int, l ...api.Field) api.Event {
	return api.Event{Type: kind, Version: version, Fields: slices.Clone(l)}
}

func opened(n int) api.Event { return event("opened", 0, number("n", n)) }

func taken(n int) api.Event { return event("taken", 0, number("n", n)) }

// chapter is the chapter's table.
func chapter() api.Rules {
	return table(does("opened", as("left", gv("n"))), does("taken", as("left", ex(api.ESub, st("left"), gv("n")))))
}

// full is a table by which an event `fill` makes so many fields, all of them a text of its own.
func full(fields int) api.Rules {
	v := does("fill")
	for i := range fields {
		v.Sets = append(v.Sets, as(fmt.Sprintf("f%02d", i), gv("s")))
	}
	return table(v, does("count", as("n", ex(api.EAdd, st("n"), num(1)))), does("begin", as("n", num(0))))
}

// alike are other names than this one, of at least 6 bytes, whose states are kept under the names under which this one's are. What is added to the bytes is what the sum is divided by.
func alike(stream string) []string {
	divisor := []byte{0xf1, 0x76, 0xec, 0x05, 0x01}
	var l []string
	for _, from := range [][]int{{0}, {1}, {0, 1}} {
		b := []byte(stream)
		for _, at := range from {
			for i, c := range divisor {
				b[at+i] ^= c
			}
		}
		l = append(l, string(b))
	}
	return l
}

// device is one with an empty store.
func device(t testing.TB, blocks int) *blockdev.Device {
	t.Helper()
	d, e := blockdev.New(blocks)
	if e != api.OK {
		t.Fatalf("New(%d): %v", blocks, e)
	}
	if e := store.Format(d); e != api.OK {
		t.Fatalf("Format: %v", e)
	}
	return d
}

func open(t testing.TB, d *blockdev.Device) *store.Store {
	t.Helper()
	s, e := store.Open(d)
	if s == nil || e != api.OK {
		t.Fatalf("Open: %v", e)
	}
	return s
}

// world is a store, what it goes with, and what it was told.
type world struct {
	t      testing.TB
	d      *blockdev.Device
	s      *store.Store
	r      api.Rules
	l      []api.Upcast
	log    []string               // the streams of all events
	events map[string][]api.Event // by streams
	taken  map[string][]int       // how many events a stream had at the Takes of it that were answered OK
	saved  map[string]string      // under other names
}

func begin(t testing.TB, blocks int, r api.Rules, l ...api.Upcast) *world {
	t.Helper()
	d := device(t, blocks)
	return &world{t, d, open(t, d), r, l, nil, map[string][]api.Event{}, map[string][]int{}, map[string]string{}}
}

// on is the same on another device that has it.
func (w *world) on(d *blockdev.Device) *world {
	w.t.Helper()
	c := *w
	c.d, c.s = d, open(w.t, d)
	c.log, c.events, c.taken, c.saved = slices.Clone(w.log), maps.Clone(w.events), maps.Clone(w.taken), maps.Clone(w.saved)
	return &c
}

// again is the same on a copy of its device.
func (w *world) again() *world {
	w.t.Helper()
	return w.on(w.d.Copy())
}

// try appends events to a stream.
func (w *world) try(stream string, l ...api.Event) api.Errno {
	w.t.Helper()
	_, e := w.s.Append(stream, -1, "", l)
	if e == api.OK {
		w.events[stream] = slices.Concat(w.events[stream], l)
		w.log = slices.Concat(w.log, slices.Repeat([]string{stream}, len(l)))
	}
	return e
}

// add appends events, and that goes well.
func (w *world) add(stream string, l ...api.Event) {
	w.t.Helper()
	if e := w.try(stream, l...); e != api.OK {
		w.t.Fatalf("Append to %q: %v", stream, e)
	}
}

// save saves, and that goes well.
func (w *world) save(name, data string) {
	w.t.Helper()
	if e := w.s.Save(name, []byte(data)); e != api.OK {
		w.t.Fatalf("Save(%q): %v", name, e)
	}
	if !strings.HasPrefix(name, "snap.") {
		w.saved[name] = data
	}
}

// count is how many events a stream has.
func (w *world) count(stream string) int { return len(w.events[stream]) }

// state is what a stream's is to be.
func (w *world) state(stream string) []api.Field {
	return plainState(w.r, w.l, stream, w.events[stream])
}

// take takes, and that goes well.
func (w *world) take(stream string) {
	w.t.Helper()
	if e := Take(w.s, w.r, w.l, stream); e != api.OK {
		w.t.Fatalf("Take(%q): %v", stream, e)
	}
	w.noteTake(stream)
}

func (w *world) noteTake(stream string) {
	w.taken[stream] = append(slices.Clone(w.taken[stream]), w.count(stream))
}

// load asks State and Load for what they are to tell, and answers Load's last number.
func (w *world) load(stream string) int {
	w.t.Helper()
	want, n := w.state(stream), w.count(stream)
	state, k, e := State(w.s, w.r, w.l, stream)
	if !slices.Equal(state, want) || k != n || e != api.OK {
		w.t.Fatalf("State(%q): %v, %d, %v, not %v, %d", stream, state, k, e, want, n)
	}
	state, k, from, e := Load(w.s, w.r, w.l, stream)
	if !slices.Equal(state, want) || k != n || e != api.OK {
		w.t.Fatalf("Load(%q): %v, %d, %d, %v, not %v, %d", stream, state, k, from, e, want, n)
	}
	return from
}

// loads asks also for Load's last number to be this one.
func (w *world) loads(stream string, from int) {
	w.t.Helper()
	for range 2 {
		if got := w.load(stream); got != from {
			w.t.Fatalf("Load(%q): from %d, not %d, of %d", stream, got, from, w.count(stream))
		}
	}
}

// is asks whether all is as it is to be, of all streams and of these: states, and Load's last number, which is that of a Take; the events, the names that others saved under, and what they saved.
func (w *world) is(others ...string) {
	w.t.Helper()
	for _, stream := range slices.Concat(slices.Collect(maps.Keys(w.events)), others, []string{"", "not there"}) {
		if from := w.load(stream); from != 0 && !slices.Contains(w.taken[stream], from) {
			w.t.Fatalf("Load(%q): from %d, not one of %v", stream, from, w.taken[stream])
		}
	}
	all, e := w.s.All(0, most)
	if e != api.OK || len(all) != len(w.log) {
		w.t.Fatalf("%d events, %v, not %d", len(all), e, len(w.log))
	}
	at := map[string]int{}
	for i, x := range all {
		n := at[x.Stream]
		at[x.Stream]++
		if x.Pos != i || x.Stream != w.log[i] || x.Number != n || fmt.Sprintf("%+v", x.Event) != fmt.Sprintf("%+v", w.events[x.Stream][n]) {
			w.t.Fatalf("%+v at %d", x, i)
		}
	}
	saved := map[string]string{}
	for _, name := range w.others() {
		data, e := w.s.Saved(name)
		if e != api.OK {
			w.t.Fatalf("Saved(%q): %v", name, e)
		}
		saved[name] = string(data)
	}
	if !maps.Equal(saved, w.saved) {
		w.t.Fatalf("saved is %q, not %q", saved, w.saved)
	}
}

// others are the names under which others saved, snaps those under which Take did.
func (w *world) others() []string {
	return slices.DeleteFunc(w.s.Names(), func(name string) bool { return strings.HasPrefix(name, "snap.") })
}

func (w *world) snaps() []string {
	return slices.DeleteFunc(w.s.Names(), func(name string) bool { return !strings.HasPrefix(name, "snap.") })
}

// lies are the bytes under a name; none, if nothing is saved so.
func (w *world) lies(name string) string {
	data, _ := w.s.Saved(name)
	return string(data)
}

// reopen lets the device crash, and opens the store anew.
func (w *world) reopen(picks ...int) {
	w.t.Helper()
	w.d.Crash(picks)
	w.s = open(w.t, w.d)
}

// bytesOf are all of a device.
func bytesOf(t testing.TB, d *blockdev.Device) [32]byte {
	t.Helper()
	h, c := sha256.New(), d.Copy()
	c.Crash(nil)
	for n := range c.Blocks() {
		b, e := c.Read(n)
		if e != api.OK {
			t.Fatalf("Read(%d): %v", n, e)
		}
		h.Write(b)
	}
	return [32]byte(h.Sum(nil))
}

// crashes are a device's copies behind the plainest crashes, and behind some that a fixed seed picks.
func crashes(d *blockdev.Device) []*blockdev.Device {
	blocks := len(d.Pending())
	all := [][]int{nil}
	if blocks > 0 {
		all = append(all, slices.Repeat([]int{1}, blocks), slices.Repeat([]int{2}, blocks))
	}
	for i := range min(blocks, 4) {
		alone, lacking := make([]int, blocks), slices.Repeat([]int{1}, blocks)
		alone[i], lacking[i] = 1, 0
		all = append(all, alone, lacking)
	}
	r := rand.New(rand.NewSource(int64(blocks)))
	for range min(blocks, 5) {
		picks := make([]int, blocks)
		for i := range picks {
			picks[i] = r.Intn(4)
		}
		all = append(all, picks)
	}
	var l []*blockdev.Device
	for _, picks := range all {
		c := d.Copy()
		c.Crash(picks)
		l = append(l, c)
	}
	return l
}

// The errors' numbers, and the limits.
func TestNumbers(t *testing.T) {
	for e, n := range map[api.Errno]int{
		api.ErrArg: 1, api.ErrDown: 2, api.ErrFsForm: 86, api.ErrStreamName: 100, api.ErrStreamKey: 101, api.ErrStreamEvents: 102,
		api.ErrStreamVersion: 103, api.ErrStoreLong: 110, api.ErrStoreSpace: 111, api.ErrStoreNone: 112,
	} {
		if int(e) != n {
			t.Errorf("%d, not %d", int(e), n)
		}
	}
	for i, n := range []int{api.MaxSaveAs, api.MaxSaved, api.MaxName, api.MaxText, api.MaxFields, api.MaxFiles} {
		if want := []int{30, 8000, 60, 200, 16, 64}[i]; n != want {
			t.Errorf("limit %d: %d, not %d", i, n, want)
		}
	}
}

// The streams that alike makes do share their names, and are unlike.
func TestAlike(t *testing.T) {
	l := append(alike("stream"), "stream")
	for _, x := range l {
		if names(x) != names("stream") {
			t.Errorf("%q: %q, not %q", x, names(x), names("stream"))
		}
	}
	if slices.Sort(l); len(slices.Compact(l)) != 4 {
		t.Errorf("%q", l)
	}
}
