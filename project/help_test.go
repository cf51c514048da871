package project

import (
	"crypto/sha256"
	"fmt"
	"math/rand"
	"slices"
	"testing"

	"cartulary/api"
	"cartulary/blockdev"
	"cartulary/store"
)

const (
	most  = 1<<63 - 1
	least = -1 << 63
)

// num, txt, st, gv, self are expressions without Args; ex is one with them.
func num(n int) api.Expr { return api.Expr{Kind: api.EInt, N: n} }

func txt(s string) api.Expr { return api.Expr{Kind: api.EText, S: s} }

func st(name string) api.Expr { return api.Expr{Kind: api.EState, S: name} }

func gv(name string) api.Expr { return api.Expr{Kind: api.EGiven, S: name} }

func self() api.Expr { return api.Expr{Kind: api.ESelf} }

func ex(kind int, args ...api.Expr) api.Expr { return api.Expr{Kind: kind, Args: args} }

// chain is an expression of so many nodes, one in the other, with this one in the innermost place. If that is a number, the value is one for odd nodes, and a text for even ones.
func chain(nodes int, inner api.Expr) api.Expr {
	e := inner
	for n := 1; n < nodes; n++ {
		kind := api.EShow
		if n%2 == 0 {
			kind = api.ELen
		}
		e = ex(kind, e)
	}
	return e
}

// full is an expression of so many nodes, an odd number, all beside one another: a sum of ones.
func full(nodes int) api.Expr {
	e := num(1)
	for n := 1; n < nodes; n += 2 {
		e = ex(api.EAdd, e, num(1))
	}
	return e
}

// onto is a sum: of events of a type.
func onto(kind string, key, add api.Expr) api.Sum { return api.Sum{Type: kind, Key: key, Add: add} }

func named(name string, l ...api.Sum) api.Projection { return api.Projection{Name: name, Sums: l} }

// chapter is the chapter's projection.
func chapter() api.Projection { return named("sums", onto("taken", self(), gv("n"))) }

// byKey is one that adds the field n to the row of the field k, of the type `e`.
func byKey() api.Projection { return named("keys", onto("e", gv("k"), gv("n"))) }

func number(name string, n int) api.Field { return api.Field{Name: name, N: n} }

func words(name, s string) api.Field { return api.Field{Name: name, Text: true, S: s} }

func event(kind string, version int, l ...api.Field) api.Event {
	return api.Event{Type: kind, Version: version, Fields: slices.Clone(l)}
}

func opened(n int) api.Event { return event("opened", 0, number("n", n)) }

func given(n int) api.Event { return event("taken", 0, number("n", n)) }

// adds is what byKey adds n for to the row of a key.
func adds(key string, n int) api.Event { return event("e", 0, words("k", key), number("n", n)) }

func row(key string, n int) api.Row { return api.Row{Key: key, N: n} }

// told asks whether a view tells just this: its cursor, its rows, and each of them by its key.
func told(t testing.TB, v *View, cursor int, rows ...api.Row) {
	t.Helper()
	if got := v.Cursor(); got != cursor {
		t.Fatalf("Cursor: %d, not %d", got, cursor)
	}
	if got := v.Rows(); !slices.Equal(got, rows) {
		t.Fatalf("Rows: %s\nnot\n%s", brief(got), brief(rows))
	}
	for _, r := range rows {
		if n, ok := v.Get(r.Key); n != r.N || !ok {
			t.Fatalf("Get(%q): %d, %v, not %d", r.Key, n, ok, r.N)
		}
		for _, other := range []string{r.Key + "\x00", "\x00" + r.Key} {
			if n, ok := v.Get(other); (n != 0 || ok) && !slices.ContainsFunc(rows, func(r api.Row) bool { return r.Key == other }) {
				t.Fatalf("Get(%q): %d, %v", other, n, ok)
			}
		}
	}
	if n, ok := v.Get("not there"); n != 0 || ok {
		t.Fatalf("Get of none: %d, %v", n, ok)
	}
}

func brief(l []api.Row) string {
	s := fmt.Sprintf("%#v", l)
	if len(s) > 2000 {
		return s[:1000] + " .. " + s[len(s)-1000:]
	}
	return s
}

// takes lets a view take events of a stream, in places from its cursor on, and each of them is taken.
func takes(t testing.TB, v *View, stream string, l ...api.Event) {
	t.Helper()
	for _, e := range l {
		if !v.Take(api.Entry{Pos: v.Cursor(), Stream: stream, Event: e}) {
			t.Fatalf("Take of %+v: false", e)
		}
	}
}

// device is one with an empty store.
func device(t testing.TB, blocks int) *blockdev.Device {
	t.Helper()
	d, e := blockdev.New(blocks)
	if e != api.OK {
		t.Fatalf("New(%d): %v", blocks, e)
	}
	if e := store.Format(d); e != api.OK {
		t.Fatalf("Format: %v", e)
	}
	return d
}

func openStore(t testing.TB, d *blockdev.Device) *store.Store {
	t.Helper()
	s, e := store.Open(d)
	if s == nil || e != api.OK {
		t.Fatalf("Open of the store: %v", e)
	}
	return s
}

// world is a store, and the account of its events.
type world struct {
	t   testing.TB
	d   *blockdev.Device
	s   *store.Store
	l   []api.Upcast
	log []api.Entry
}

func begun(t testing.TB, blocks int, l ...api.Upcast) *world {
	t.Helper()
	d := device(t, blocks)
	return &world{t, d, openStore(t, d), l, nil}
}

// example is the chapter's log.
func example(t testing.TB) *world {
	t.Helper()
	w := begun(t, 64)
	w.add("acc", opened(5))
	w.add("acc", given(2))
	w.add("box", given(1))
	w.add("acc", given(3))
	return w
}

// on is the same on another device that has it.
func (w *world) on(d *blockdev.Device) *world {
	w.t.Helper()
	return &world{w.t, d, openStore(w.t, d), w.l, slices.Clone(w.log)}
}

// again is the same on a copy of its device.
func (w *world) again() *world {
	w.t.Helper()
	return w.on(w.d.Copy())
}

// try appends events to a stream.
func (w *world) try(stream string, l ...api.Event) api.Errno {
	w.t.Helper()
	_, e := w.s.Append(stream, -1, "", l)
	if e == api.OK {
		w.note(stream, l)
	}
	return e
}

// note tells the account of events that were appended.
func (w *world) note(stream string, l []api.Event) {
	number := 0
	for _, x := range w.log {
		if x.Stream == stream {
			number++
		}
	}
	for i, e := range l {
		w.log = append(w.log, api.Entry{Pos: len(w.log), Stream: stream, Number: number + i, Event: e})
	}
}

// add appends events, and that goes well.
func (w *world) add(stream string, l ...api.Event) {
	w.t.Helper()
	if e := w.try(stream, l...); e != api.OK {
		w.t.Fatalf("Append to %q: %v", stream, e)
	}
}

// is asks whether a view of a projection is that of its cursor's first events.
func (w *world) is(v *View, p api.Projection) {
	w.t.Helper()
	if n := v.Cursor(); n < 0 || n > len(w.log) {
		w.t.Fatalf("Cursor: %d of %d events", n, len(w.log))
	}
	told(w.t, v, v.Cursor(), plainRows(p, w.l, w.log[:v.Cursor()])...)
}

// view is one of so many events.
func (w *world) view(p api.Projection, cursor int) *View {
	w.t.Helper()
	v := New(p, w.l)
	w.tick(v, p, cursor)
	if v.Cursor() != cursor {
		w.t.Fatalf("Cursor: %d, not %d", v.Cursor(), cursor)
	}
	return v
}

// tick ticks, and asks what has come of it.
func (w *world) tick(v *View, p api.Projection, most int) int {
	w.t.Helper()
	was := v.Cursor()
	want := min(most, len(w.log)-was)
	n, e := v.Tick(w.s, most)
	if n != want || e != api.OK || v.Cursor() != was+want {
		w.t.Fatalf("Tick(%d): %d, %v, not %d; Cursor %d, which was %d", most, n, e, want, v.Cursor(), was)
	}
	w.is(v, p)
	return n
}

// save saves a view, and that goes well and changes nothing of it.
func (w *world) save(v *View) {
	w.t.Helper()
	cursor, rows := v.Cursor(), v.Rows()
	if e := v.Save(w.s); e != api.OK {
		w.t.Fatalf("Save: %v", e)
	}
	told(w.t, v, cursor, rows...)
}

// open opens a view, which is one of its cursor's first events.
func (w *world) open(p api.Projection) *View {
	w.t.Helper()
	v, e := Open(w.s, p, w.l)
	if v == nil || e != api.OK {
		w.t.Fatalf("Open of %q: %v, %v", p.Name, v, e)
	}
	w.is(v, p)
	return v
}

// opens asks for the cursor that Open is to tell.
func (w *world) opens(p api.Projection, cursor int) {
	w.t.Helper()
	for range 2 {
		if v := w.open(p); v.Cursor() != cursor {
			w.t.Fatalf("Open of %q: the cursor %d, not %d, of %d", p.Name, v.Cursor(), cursor, len(w.log))
		}
	}
}

// goesOn opens a view, and lets it take all that there is.
func (w *world) goesOn(p api.Projection) {
	w.t.Helper()
	v := w.open(p)
	w.tick(v, p, 1)
	w.tick(v, p, most)
}

// isLog asks whether the store's events are those of the account.
func (w *world) isLog() {
	w.t.Helper()
	all, e := w.s.All(0, most)
	if e != api.OK || len(all) != len(w.log) || w.s.Length() != len(w.log) {
		w.t.Fatalf("%d events, %v, not %d", len(all), e, len(w.log))
	}
	for i, x := range all {
		if fmt.Sprintf("%+v", x) != fmt.Sprintf("%+v", w.log[i]) {
			w.t.Fatalf("%+v, not %+v", x, w.log[i])
		}
	}
}

// lies are the bytes under a name; none, if nothing is saved so.
func (w *world) lies(name string) string {
	data, _ := w.s.Saved(name)
	return string(data)
}

// reopen lets the device crash, and opens the store anew.
func (w *world) reopen(picks ...int) {
	w.t.Helper()
	w.d.Crash(picks)
	w.s = openStore(w.t, w.d)
}

// down lets the device go down; the store knows it then.
func (w *world) down() {
	w.t.Helper()
	w.d.Fuse(0)
	if e := w.s.Save("x", nil); e != api.ErrDown || !w.d.Down() {
		w.t.Fatalf("it is not down: %v", e)
	}
}

// bytesOf are all of a device, behind a crash that keeps nothing that is pending.
func bytesOf(t testing.TB, d *blockdev.Device) [32]byte {
	t.Helper()
	h, c := sha256.New(), d.Copy()
	c.Crash(nil)
	for n := range c.Blocks() {
		b, e := c.Read(n)
		if e != api.OK {
			t.Fatalf("Read(%d): %v", n, e)
		}
		h.Write(b)
	}
	return [32]byte(h.Sum(nil))
}

// crashes are a device's copies behind the plainest crashes, and behind some that a fixed seed picks.
func crashes(d *blockdev.Device) []*blockdev.Device {
	blocks := len(d.Pending())
	all := [][]int{nil}
	if blocks > 0 {
		all = append(all, slices.Repeat([]int{1}, blocks), slices.Repeat([]int{2}, blocks))
	}
	for i := range min(blocks, 4) {
		alone, lacking := make([]int, blocks), slices.Repeat([]int{1}, blocks)
		alone[i], lacking[i] = 1, 0
		all = append(all, alone, lacking)
	}
	r := rand.New(rand.NewSource(int64(blocks)))
	for range min(blocks, 5) {
		picks := make([]int, blocks)
		for i := range picks {
			picks[i] = r.Intn(4)
		}
		all = append(all, picks)
	}
	var l []*blockdev.Device
	for _, picks := range all {
		c := d.Copy()
		c.Crash(picks)
		l = append(l, c)
	}
	return l
}

// The errors' numbers, the limits, and the kinds of expressions.
func TestNumbers(t *testing.T) {
	for e, n := range map[api.Errno]int{
		api.OK: 0, api.ErrArg: 1, api.ErrDown: 2, api.ErrStreamName: 100, api.ErrStoreLong: 110, api.ErrStoreSpace: 111, api.ErrStoreNone: 112,
		api.ErrProjectName: 170, api.ErrProjectMany: 171, api.ErrProjectForm: 172,
	} {
		if int(e) != n {
			t.Errorf("%d, not %d", int(e), n)
		}
	}
	for i, n := range []int{api.MaxViewName, api.MaxFolds, api.MaxRows, api.MaxNumber, api.MaxText, api.MaxExpr, api.MaxSaved, api.MaxSaveAs} {
		if want := []int{20, 16, 200, 1e15, 200, 64, 8000, 30}[i]; n != want {
			t.Errorf("limit %d: %d, not %d", i, n, want)
		}
	}
	for i, kind := range []int{api.EInt, api.EText, api.EState, api.EGiven, api.ESelf, api.EAdd, api.ESub, api.EMul, api.EJoin, api.ELen, api.EShow} {
		if kind != i+1 {
			t.Errorf("kind %d, not %d", kind, i+1)
		}
	}
}

// chain and full make as many nodes as they say.
func TestNodes(t *testing.T) {
	for _, n := range []int{1, 3, 63, 65} {
		if a, b := plainNodes(chain(n, num(5))), plainNodes(full(n)); a != n || b != n {
			t.Errorf("%d, %d, not %d", a, b, n)
		}
	}
	if n := plainNodes(chain(64, num(5))); n != 64 {
		t.Error(n)
	}
}
