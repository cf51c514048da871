package project

import (
	"fmt"
	"math/rand"
	"slices"
	"strings"
	"testing"

	"cartulary/api"
	"cartulary/upcast"
)

// of is one of the things.
func of[T any](r *rand.Rand, l ...T) T { return l[r.Intn(len(l))] }

// in tells whether one of so many times is now.
func in(r *rand.Rand, n int) bool { return r.Intn(n) == 0 }

// fields and kinds are few, so that they meet.
var (
	fields = []string{"a", "b", "c", "k", "n"}
	kinds  = []string{"done", "given", "taken"}
)

func drawnInt(r *rand.Rand) int {
	if in(r, 5) {
		return of(r, bound, -bound, bound-1, -bound+1, bound+1, -bound-1, 31_622_776, -31_622_777, 1<<32, most, least)
	}
	return r.Intn(9) - 3
}

func drawnText(r *rand.Rand) string {
	return of(r, "", "x", "5", "-2", "\x00\xff", "&=%'", "acc", strings.Repeat("y", 99), strings.Repeat("\xff", 200), strings.Repeat("z", 199))
}

func drawnField(r *rand.Rand, name string) api.Field {
	if in(r, 3) {
		return words(name, drawnText(r))
	}
	return number(name, drawnInt(r))
}

// drawnEvent is one that a store takes: its fields are in any order, and some names are none of a record's.
func drawnEvent(r *rand.Rand) api.Event {
	e := event(of(r, append([]string{"none", "A"}, slices.Concat(kinds, kinds, kinds)...)...), of(r, 0, 0, 0, 1, 1, 2, 3, 4, api.MaxVersion))
	for _, i := range r.Perm(len(fields))[:r.Intn(len(fields)+1)] {
		e.Fields = append(e.Fields, drawnField(r, fields[i]))
	}
	if in(r, 8) {
		e.Fields = append(e.Fields, drawnField(r, of(r, "A", "\xff", "z z", strings.Repeat("a", 60))))
	}
	return e
}

// handEvent is one that no store need take.
func handEvent(r *rand.Rand) api.Event {
	e := drawnEvent(r)
	if in(r, 3) {
		e.Fields = append(e.Fields, api.Field{Name: of(r, fields...), Text: in(r, 2), N: drawnInt(r), S: drawnText(r)}, drawnField(r, of(r, fields...)), words(of(r, fields...), strings.Repeat("x", 200+r.Intn(3))))
		r.Shuffle(len(e.Fields), func(i, j int) { e.Fields[i], e.Fields[j] = e.Fields[j], e.Fields[i] })
	}
	if in(r, 9) {
		e.Version = of(r, -1, least, most)
	}
	return e
}

func drawnEvents(r *rand.Rand) (l []api.Event) {
	for range of(r, 1, 1, 2, 3) {
		l = append(l, drawnEvent(r))
	}
	return l
}

// drawnExpr is an expression of few nodes, most of which have a value: a text more often, or an integer.
func drawnExpr(r *rand.Rand, depth int, text bool) api.Expr {
	if in(r, 12) {
		text = !text
	}
	if depth == 0 || in(r, 3) {
		if text {
			return of(r, txt(drawnText(r)), self(), gv(of(r, fields...)), gv("k"))
		}
		return of(r, num(drawnInt(r)), num(r.Intn(9)), gv(of(r, fields...)), gv("n"))
	}
	switch {
	case text && in(r, 2):
		return ex(api.EShow, drawnExpr(r, depth-1, false))
	case text:
		return ex(api.EJoin, drawnExpr(r, depth-1, true), drawnExpr(r, depth-1, true))
	case in(r, 4):
		return ex(api.ELen, drawnExpr(r, depth-1, true))
	}
	return ex(of(r, api.EAdd, api.EAdd, api.ESub, api.EMul), drawnExpr(r, depth-1, false), drawnExpr(r, depth-1, false))
}

// drawnProjection is one that may be.
func drawnProjection(r *rand.Rand, name string) api.Projection {
	p := named(name)
	for range of(r, 1, 3, 6, 16) {
		p.Sums = append(p.Sums, onto(of(r, kinds...), drawnExpr(r, r.Intn(3), !in(r, 4)), drawnExpr(r, r.Intn(3), false)))
	}
	return p
}

// spoil changes one thing of a projection, to something that may not be, or that may.
func spoil(r *rand.Rand, p *api.Projection) {
	if len(p.Sums) == 0 || in(r, 6) {
		p.Name = of(r, "", "A", "sums", strings.Repeat("a", 20), strings.Repeat("a", 21))
		return
	}
	x := &p.Sums[r.Intn(len(p.Sums))]
	bad := of(r, st("k"), st("n"), api.Expr{}, api.Expr{Kind: 12}, ex(api.EAdd, num(1)), gv("A"), gv("\xff"), gv("z z"), txt(strings.Repeat("x", 201)), full(65), full(63), chain(64, gv("n")), chain(65, gv("n")))
	switch r.Intn(6) {
	case 0:
		x.Type = of(r, "A", "none", "", "given")
	case 1:
		x.Key = bad
	case 2:
		x.Add = bad
	case 3:
		x.Key = instead(x.Key, r.Intn(plainNodes(x.Key)), bad)
	case 4:
		x.Add = instead(x.Add, r.Intn(plainNodes(x.Add)), bad)
	case 5:
		p.Sums = append(p.Sums, drawnProjection(r, "").Sums...)
	}
}

// drawnUpcasts are such as may be.
func drawnUpcasts(r *rand.Rand) (l []api.Upcast) {
	some := append([]string{"z"}, fields...)
	for _, kind := range kinds {
		for version := range r.Intn(5) {
			u := api.Upcast{Type: kind, From: version}
			for range r.Intn(4) {
				u.Changes = append(u.Changes, api.Change{Kind: of(r, 1, 1, 2, 3, 3, 4, 5, 5), Name: of(r, some...), To: of(r, some...), F: drawnField(r, of(r, some...))})
			}
			l = append(l, u)
		}
	}
	r.Shuffle(len(l), func(i, j int) { l[i], l[j] = l[j], l[i] })
	return l
}

// spoilUpcasts puts one into the list that may not be there.
func spoilUpcasts(r *rand.Rand, l []api.Upcast) []api.Upcast {
	f := of(r, api.Field{Name: "a", N: 1, S: "x"}, words("b", strings.Repeat("x", 201)), number("A", 1), number("", 2))
	u := api.Upcast{Type: of(r, kinds...), From: of(r, 0, 0, 1, -1, most-1), Changes: []api.Change{{Kind: of(r, 1, 1, 1, 0, 9), F: f}}}
	return slices.Insert(l, r.Intn(len(l)+1), u)
}

// P17.1: Check holds against the plain one, of drawn projections with some things changed.
func TestDrawnChecks(t *testing.T) {
	r := rand.New(rand.NewSource(1))
	told := map[api.Errno]int{}
	for range 20000 {
		p := drawnProjection(r, of(r, "sums", "a", strings.Repeat("b", 20)))
		for range r.Intn(4) {
			spoil(r, &p)
		}
		want := plainCheck(p)
		if got := Check(p); got != want {
			t.Fatalf("%+v: %v, not %v", p, got, want)
		}
		told[want]++
	}
	for _, e := range []api.Errno{0, 170, 171, 172} {
		if told[e] < 1000 {
			t.Errorf("%d is answered %d times", e, told[e])
		}
	}
}

// P17.2: Take holds against the plain one: of drawn projections, upcasters and entries, of such as may not be too.
func TestDrawnTakes(t *testing.T) {
	r := rand.New(rand.NewSource(2))
	most, wrong, moved, beyond := 0, 0, 0, 0
	for range 2500 {
		p, l := drawnProjection(r, "p"), drawnUpcasts(r)
		for in(r, 3) {
			spoil(r, &p)
		}
		if in(r, 6) {
			l = spoilUpcasts(r, l)
		}
		if Check(p) != api.OK || upcast.Check(l) != api.OK {
			wrong++
		}
		v := New(p, l)
		var entries []api.Entry
		for i := range 25 {
			x := api.Entry{Pos: i, Stream: of(r, "acc", "box", "5", drawnText(r), strings.Repeat("s", 199+r.Intn(3))), Number: r.Intn(9), Event: handEvent(r)}
			if off := x; in(r, 4) {
				off.Pos += of(r, -1, 1, 100, -100)
				if v.Take(off) {
					t.Fatalf("%+v is taken at %d", off, i)
				}
			}
			if !v.Take(x) {
				t.Fatalf("%+v is not taken at %d", x, i)
			}
			entries = append(entries, x)
			rows := plainRows(p, l, entries)
			told(t, v, i+1, rows...)
			if len(rows) > 0 {
				moved++
			}
			most = max(most, len(rows))
			if slices.ContainsFunc(rows, func(x api.Row) bool { return x.N == bound || x.N == -bound }) {
				beyond++
			}
		}
	}
	if most < 25 || wrong < 300 || moved < 20000 || beyond < 2000 {
		t.Errorf("%d rows at most; %d may not be; %d times some rows; %d times at the bounds", most, wrong, moved, beyond)
	}
}

// P17.2: many rows, drawn: about as many keys as there may be rows.
func TestDrawnManyRows(t *testing.T) {
	r := rand.New(rand.NewSource(3))
	p := named("p", onto("e", gv("k"), gv("n")), onto("e", gv("m"), gv("n")), onto("e", ex(api.EJoin, gv("k"), txt("x")), num(1)))
	for range 8 {
		v := New(p, nil)
		var entries []api.Entry
		for i := range 400 {
			x := api.Entry{Pos: i, Stream: "s", Event: event("e", 0, words("k", fmt.Sprint(r.Intn(120))), number("m", r.Intn(120)), number("n", drawnInt(r)))}
			if v.Take(x); i%20 == 19 || len(v.Rows()) > 195 && i%3 == 0 {
				told(t, v, i+1, plainRows(p, nil, append(entries, x))...)
			}
			entries = append(entries, x)
		}
		if len(v.Rows()) != 200 {
			t.Errorf("%d rows", len(v.Rows()))
		}
	}
}

// drawnWorld is one of drawn projections of unlike names, and drawn upcasters; some of these may not be.
func drawnWorld(t testing.TB, r *rand.Rand) (*world, []api.Projection) {
	t.Helper()
	l := drawnUpcasts(r)
	if in(r, 6) {
		l = spoilUpcasts(r, l)
	}
	return begun(t, 256, l...), []api.Projection{drawnProjection(r, "p"), drawnProjection(r, "pp"), drawnProjection(r, strings.Repeat("p", 20))}
}

// P17.3, P17.4, P17.5: all that may be done, drawn, with stops and crashes: each view's rows are those of its cursor's first events; and Open gives a view of the cursor that was saved last, or of the one before, if the last Save has stopped.
func TestDrawnRuns(t *testing.T) {
	r := rand.New(rand.NewSource(4))
	did := map[string]int{}
	for range 120 {
		w, l := drawnWorld(t, r)
		views := []*View{New(l[0], w.l), New(l[1], w.l), New(l[2], w.l)}
		saved := [][]int{{0}, {0}, {0}} // the cursors that Open may tell
		for range 80 {
			i := r.Intn(3)
			switch r.Intn(10) {
			case 0, 1, 2:
				if w.try(of(r, "acc", "box", strings.Repeat("t", 60)), drawnEvents(r)...) == api.OK {
					did["append"]++
				}
			case 3, 4:
				w.tick(views[i], l[i], of(r, 0, 1, 2, 5, most))
			case 5, 6:
				saved[i] = drawnSave(w, r, views[i], saved[i], did)
			case 7:
				views[i] = w.open(l[i])
				did["open"]++
			case 8:
				w.reopen(r.Intn(3), r.Intn(3), r.Intn(3))
			case 9:
				if w.s.Drop("view."+l[i].Name) == api.OK {
					did["drop"]++
				}
				saved[i] = []int{0}
			}
			for j, v := range views {
				w.is(v, l[j])
				cursor := w.open(l[j]).Cursor()
				if !slices.Contains(saved[j], cursor) {
					t.Fatalf("the cursor %d, not one of %v", cursor, saved[j])
				}
				saved[j] = []int{cursor}
			}
		}
		w.isLog()
	}
	for what, n := range map[string]int{"append": 1000, "open": 500, "drop": 50, "saved": 500, "stopped": 100} {
		if did[what] < n {
			t.Errorf("%s: %d times", what, did[what])
		}
	}
}

// drawnSave saves a view, which may stop: the cursors that Open may tell then.
func drawnSave(w *world, r *rand.Rand, v *View, saved []int, did map[string]int) []int {
	w.t.Helper()
	k := -1
	if in(r, 3) {
		k = r.Intn(40)
	}
	w.d.Fuse(k)
	e := v.Save(w.s)
	w.d.Fuse(-1)
	switch {
	case e == api.OK:
		did["saved"]++
		return []int{v.Cursor()}
	case e == api.ErrDown:
		did["stopped"]++
		picks := make([]int, 20)
		for i := range picks {
			picks[i] = r.Intn(4)
		}
		w.reopen(picks...)
		return append(saved, v.Cursor())
	case e != api.ErrStoreSpace:
		w.t.Fatalf("Save: %v", e)
	}
	return saved
}

// P17.5: views of drawn logs that are saved in each other's stores: the cursor is never more than there are events, and the rows are those of the store's own.
func TestDrawnForeign(t *testing.T) {
	r := rand.New(rand.NewSource(5))
	zero, more := 0, 0
	for range 200 {
		w := begun(t, 64)
		w.add("acc", drawnEvents(r)...)
		other := w.again()
		p := named("p", onto("taken", of(r, self(), gv("k")), of(r, gv("n"), num(1))))
		for range 12 {
			a, b := w, other
			if in(r, 2) {
				a, b = other, w
			}
			e := drawnEvents(r)
			a.add(of(r, "acc", "box"), e...)
			if in(r, 3) {
				b.add(a.log[len(a.log)-1].Stream, e...)
			}
			b.saves(a.view(p, r.Intn(len(a.log)+1)))
			for range 3 {
				if b.open(p).Cursor() == 0 {
					zero++
				} else {
					more++
				}
				b.goesOn(p)
				b.add("acc", drawnEvents(r)...)
			}
		}
	}
	if zero < 1000 || more < 200 {
		t.Errorf("%d times nothing, %d times something", zero, more)
	}
}
