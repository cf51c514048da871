package command

import (
	"crypto/sha256"
	"fmt"
	"math/rand"
	"slices"
	"strconv"
	"strings"
	"testing"

	"cartulary/api"
	"cartulary/blockdev"
	"cartulary/snapshot"
	"cartulary/store"
)

const (
	most  = 1<<63 - 1
	least = -1 << 63
)

// num, txt, st, gv, self are expressions without Args; ex is one with them.
func num(n int) api.Expr { return api.Expr{Kind: api.EInt, N: n} }

func txt(s string) api.Expr { return api.Expr{Kind: api.EText, S: s} }

func st(name string) api.Expr { return api.Expr{Kind: api.EState, S: name} }

func gv(name string) api.Expr { return api.Expr{Kind: api.EGiven, S: name} }

func self() api.Expr { return api.Expr{Kind: api.ESelf} }

func ex(kind int, args ...api.Expr) api.Expr { return api.Expr{Kind: kind, Args: args} }

// as is an assignment, does an Evolve, emit an Emit.
func as(name string, e api.Expr) api.Assign { return api.Assign{Name: name, E: e} }

func does(kind string, l ...api.Assign) api.Evolve { return api.Evolve{Type: kind, Sets: l} }

func emit(kind string, l ...api.Assign) api.Emit { return api.Emit{Type: kind, Sets: l} }

// emits is a handler without Needs that makes events; takes is one with the Need n, an integer.
func emits(name string, l ...api.Emit) api.Handler {
	return api.Handler{Command: name, Cases: []api.Case{{Emits: l}}}
}

func takes(name string, l ...api.Case) api.Handler {
	return api.Handler{Command: name, Needs: []api.Need{{Name: "n"}}, Cases: l}
}

func less(a, b api.Expr) []api.Cond { return []api.Cond{{Kind: api.CLess, A: a, B: b}} }

func number(name string, n int) api.Field { return api.Field{Name: name, N: n} }

func words(name, s string) api.Field { return api.Field{Name: name, Text: true, S: s} }

func event(kind string, version int, l ...api.Field) api.Event {
	return api.Event{Type: kind, Version: version, Fields: slices.Clone(l)}
}

func opened(n int) api.Event { return event("opened", 0, number("n", n)) }

func taken(n int) api.Event { return event("taken", 0, number("n", n)) }

// chapter is the chapter's table: that of chapter 13, with open, and what `opened` does.
func chapter() api.Rules {
	n := as("n", gv("n"))
	return api.Rules{
		Handlers: []api.Handler{
			takes("open", api.Case{Emits: []api.Emit{emit("opened", n)}}),
			takes("take",
				api.Case{When: less(gv("n"), num(1)), Refuse: "nothing"},
				api.Case{When: less(st("left"), gv("n")), Refuse: "empty"},
				api.Case{Emits: []api.Emit{emit("taken", n)}}),
		},
		Evolves: []api.Evolve{
			does("opened", as("left", gv("n"))),
			does("taken", as("left", ex(api.ESub, st("left"), gv("n")))),
		},
	}
}

// with is a table with more handlers.
func with(r api.Rules, l ...api.Handler) api.Rules {
	r.Handlers = slices.Concat(r.Handlers, l)
	return r
}

// order is a command to a stream, of any number of events, with the integer n.
func order(stream, name, key string, n int) api.Command {
	return api.Command{Stream: stream, Name: name, Key: key, Expected: -1, Fields: []api.Field{number("n", n)}}
}

// take is the chapter's command.
func take(n int) api.Command { return order("acc", "take", "", n) }

// keyed and expecting are commands that are told so.
func keyed(c api.Command, key string) api.Command {
	c.Key = key
	return c
}

func expecting(c api.Command, n int) api.Command {
	c.Expected = n
	return c
}

// came are what commands come to.
func came(kind, first, pos, count int) api.Done {
	return api.Done{Kind: kind, First: first, Pos: pos, Count: count}
}

func badly(e api.Errno) api.Done { return api.Done{Kind: api.DBad, E: e} }

func never(reason string) api.Done { return api.Done{Kind: api.DRefused, Reason: reason} }

var (
	notYet   = api.Done{}
	conflict = api.Done{Kind: api.DConflict}
	space    = api.Done{Kind: api.DSpace}
	down     = api.Done{Kind: api.DDown}
)

// device is one with an empty store.
func device(t testing.TB, blocks int) *blockdev.Device {
	t.Helper()
	d, e := blockdev.New(blocks)
	if e != api.OK {
		t.Fatalf("New(%d): %v", blocks, e)
	}
	if e := store.Format(d); e != api.OK {
		t.Fatalf("Format: %v", e)
	}
	return d
}

func open(t testing.TB, d *blockdev.Device) *store.Store {
	t.Helper()
	s, e := store.Open(d)
	if s == nil || e != api.OK {
		t.Fatalf("Open: %v", e)
	}
	return s
}

// world is a store, what it goes with, and the account of it.
type world struct {
	t testing.TB
	d *blockdev.Device
	s *store.Store
	r api.Rules
	l []api.Upcast
	m *account
}

func begun(t testing.TB, blocks int, r api.Rules, l ...api.Upcast) *world {
	t.Helper()
	d := device(t, blocks)
	return &world{t, d, open(t, d), r, l, &account{blocks: blocks}}
}

// acc is the chapter's: the stream `acc` has the event `opened`, n=5.
func acc(t testing.TB, blocks int) *world {
	t.Helper()
	w := begun(t, blocks, chapter())
	w.add("acc", "", opened(5))
	return w
}

// on is the same on another device that has it.
func (w *world) on(d *blockdev.Device) *world {
	w.t.Helper()
	c := *w
	c.d, c.s, c.m = d, open(w.t, d), w.m.copy()
	return &c
}

// again is the same on a copy of its device.
func (w *world) again() *world {
	w.t.Helper()
	return w.on(w.d.Copy())
}

// add appends events without a job, and that goes well.
func (w *world) add(stream, key string, l ...api.Event) {
	w.t.Helper()
	if _, e := w.s.Append(stream, -1, key, l); e != api.OK {
		w.t.Fatalf("Append to %q: %v", stream, e)
	}
	if e := w.m.add(stream, key, l); e != api.OK {
		w.t.Fatalf("the account of Append to %q: %v", stream, e)
	}
}

// snap keeps a stream's state, if there is room.
func (w *world) snap(stream string) {
	w.t.Helper()
	if e := snapshot.Take(w.s, w.r, w.l, stream); e != api.OK && e != api.ErrStoreSpace {
		w.t.Fatalf("Take(%q): %v", stream, e)
	}
	w.count()
}

// save saves so many bytes under a name, and that goes well.
func (w *world) save(name string, bytes int) {
	w.t.Helper()
	if e := w.s.Save(name, make([]byte, bytes)); e != api.OK {
		w.t.Fatalf("Save(%q): %v", name, e)
	}
	w.count()
}

// count tells the account what is saved.
func (w *world) count() {
	w.t.Helper()
	w.m.saved = map[string]int{}
	for _, name := range w.s.Names() {
		data, e := w.s.Saved(name)
		if e != api.OK {
			w.t.Fatalf("Saved(%q): %v", name, e)
		}
		w.m.saved[name] = len(data)
	}
}

// reopen lets the device crash, and opens the store anew.
func (w *world) reopen(picks ...int) {
	w.t.Helper()
	w.d.Crash(picks)
	w.s = open(w.t, w.d)
}

// pair is a job, and the plain account of it.
type pair struct {
	j *Job
	p *plainJob
}

func (w *world) job(c api.Command) pair {
	w.t.Helper()
	j := New(c)
	if j == nil {
		w.t.Fatal("no job")
	}
	c.Fields = slices.Clone(c.Fields)
	return pair{j, &plainJob{c: c}}
}

// step steps, which must come to what it is to come to.
func (w *world) step(x pair) api.Done {
	w.t.Helper()
	before := len(w.m.batches)
	want, done := w.m.step(x.p, w.r, w.l)
	got, is := x.j.Step(w.s, w.r, w.l)
	if got != want || is != done {
		w.t.Fatalf("%+v: %+v, %v, not %+v, %v", x.p.c, got, is, want, done)
	}
	if n := len(w.m.batches) - before; n > 0 {
		w.isDecided(x.p.c, got)
	}
	return got
}

// isDecided asks whether what a command has added, as the store tells it, is what the rules decide on the state that its stream had just ahead of that.
func (w *world) isDecided(c api.Command, d api.Done) {
	w.t.Helper()
	entries, e := w.s.Stream(c.Stream, 0, most)
	if e != api.OK || d.Kind != api.DDone || len(entries) != d.First+d.Count || d.Count < 1 {
		w.t.Fatalf("%+v: %+v, of %d events, %v", c, d, len(entries), e)
	}
	var l []api.Event
	for i, x := range entries {
		if l = append(l, x.Event); i >= d.First && x.Pos != d.Pos+i-d.First {
			w.t.Fatalf("%+v: %+v, but the number %d is at %d", c, d, i, x.Pos)
		}
	}
	want, e := plainDecide(w.r, c.Stream, plainState(w.r, w.l, c.Stream, l[:d.First]), c.Name, c.Fields)
	for i := range want.Events {
		want.Events[i].Version = plainLatest(w.l, want.Events[i].Type)
	}
	if got := l[d.First:]; e != api.OK || want.Refused || tellEvents(got) != tellEvents(want.Events) {
		w.t.Fatalf("%+v: added %s\nnot %s", c, tellEvents(got), tellEvents(want.Events))
	}
}

// steps steps, which must come to each of these; all is then as it is to be.
func (w *world) steps(x pair, l ...api.Done) {
	w.t.Helper()
	for i, want := range l {
		if got := w.step(x); got != want {
			w.t.Fatalf("step %d of %+v: %+v, not %+v", i, x.p.c, got, want)
		}
	}
	w.is()
}

// does does a command in a job of its own, which must come to each of these in its steps.
func (w *world) does(c api.Command, l ...api.Done) {
	w.t.Helper()
	w.steps(w.job(c), l...)
}

// run does a command to its end.
func (w *world) run(c api.Command) api.Done {
	w.t.Helper()
	x := w.job(c)
	for range 7 {
		if d := w.step(x); d != notYet {
			return d
		}
	}
	w.t.Fatalf("%+v is not done", c)
	return api.Done{}
}

// tell is what is told of a store's log, as an account's want is.
func tell(t testing.TB, s *store.Store, keys []string) string {
	t.Helper()
	b := &strings.Builder{}
	all, e := s.All(0, most)
	if e != api.OK || len(all) != s.Length() {
		t.Fatalf("All: %d events of %d, %v", len(all), s.Length(), e)
	}
	b.WriteString(tellEntries(all))
	for _, key := range keys {
		stream, a, known := s.Keyed(key)
		fmt.Fprintf(b, "key %q: %q %d %d %d %v\n", key, stream, a.First, a.Pos, a.Count, known)
	}
	return b.String()
}

// is asks whether the log is as it is to be, and what is saved too; of these keys, beside its own.
func (w *world) is(keys ...string) {
	w.t.Helper()
	keys = slices.Concat(keys, w.m.keys(), []string{"", "not there"})
	if got, want := tell(w.t, w.s, keys), w.m.want(keys); got != want {
		w.t.Fatalf("%s\nnot\n%s", brief(got), brief(want))
	}
	if names := w.s.Names(); len(names) != len(w.m.saved) {
		w.t.Fatalf("%q is saved, not %v", names, w.m.saved)
	}
}

// brief is the beginning of a text, and its end.
func brief(s string) string {
	if len(s) > 2000 {
		return strconv.Quote(s[:1000]) + " .. " + strconv.Quote(s[len(s)-1000:])
	}
	return s
}

// bytesOf are all of a device, behind a crash that keeps nothing that is pending.
func bytesOf(t testing.TB, d *blockdev.Device) [32]byte {
	t.Helper()
	h, c := sha256.New(), d.Copy()
	c.Crash(nil)
	for n := range c.Blocks() {
		b, e := c.Read(n)
		if e != api.OK {
			t.Fatalf("Read(%d): %v", n, e)
		}
		h.Write(b)
	}
	return [32]byte(h.Sum(nil))
}

// crashes are a device's copies behind the plainest crashes, and behind some that a fixed seed picks.
func crashes(d *blockdev.Device) []*blockdev.Device {
	blocks := len(d.Pending())
	all := [][]int{nil}
	if blocks > 0 {
		all = append(all, slices.Repeat([]int{1}, blocks), slices.Repeat([]int{2}, blocks))
	}
	for i := range min(blocks, 4) {
		alone, lacking := make([]int, blocks), slices.Repeat([]int{1}, blocks)
		alone[i], lacking[i] = 1, 0
		all = append(all, alone, lacking)
	}
	r := rand.New(rand.NewSource(int64(blocks)))
	for range min(blocks, 5) {
		picks := make([]int, blocks)
		for i := range picks {
			picks[i] = r.Intn(4)
		}
		all = append(all, picks)
	}
	var l []*blockdev.Device
	for _, picks := range all {
		c := d.Copy()
		c.Crash(picks)
		l = append(l, c)
	}
	return l
}

// The numbers of what commands come to, and those of errors and limits that the chapter names.
func TestNumbers(t *testing.T) {
	for n, kind := range []int{0, api.DDone, api.DAgain, api.DConflict, api.DRefused, api.DSpace, api.DBad, api.DDown} {
		if kind != n {
			t.Errorf("%d, not %d", kind, n)
		}
	}
	for e, n := range map[api.Errno]int{api.ErrArg: 1, api.ErrDown: 2, api.ErrStreamName: 100, api.ErrStreamKey: 101, api.ErrStreamEvents: 102, api.ErrStreamVersion: 103, api.ErrStoreLong: 110, api.ErrStoreSpace: 111, api.ErrRulesNone: 136, api.ErrRulesNeeds: 137} {
		if int(e) != n {
			t.Errorf("%d, not %d", int(e), n)
		}
	}
	if api.MaxName != 60 || api.MaxTries != 3 || api.MaxEvents != 16 {
		t.Errorf("%d, %d, %d", api.MaxName, api.MaxTries, api.MaxEvents)
	}
}
