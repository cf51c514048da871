package command

import (
	"fmt"
	"math/rand"
	"slices"
	"strings"
	"testing"

	"cartulary/api"
	"cartulary/rules"
	"cartulary/upcast"
)

// of is one of the things.
func of[T any](r *rand.Rand, l ...T) T { return l[r.Intn(len(l))] }

// in tells whether one of so many times is now.
func in(r *rand.Rand, n int) bool { return r.Intn(n) == 0 }

// fields, kinds, names and streams are few, so that they meet.
var (
	fields  = []string{"a", "b", "left", "n"}
	kinds   = []string{"done", "given", "taken"}
	names   = []string{"do", "give", "take"}
	streams = []string{"acc", "box", strings.Repeat("s", 60)}
)

func drawnInt(r *rand.Rand) int {
	if in(r, 8) {
		return of(r, bound, -bound, bound+1, 31_622_776, -31_622_777, 1<<32, most, least)
	}
	return r.Intn(9) - 2
}

func drawnText(r *rand.Rand) string {
	return of(r, "", "x", "5", "acc", "\x00\xff", "&=%'", strings.Repeat("y", 99), strings.Repeat("\xff", 200))
}

func drawnField(r *rand.Rand, name string) api.Field {
	if in(r, 3) {
		return words(name, drawnText(r))
	}
	return number(name, drawnInt(r))
}

// drawnFields are some, in any order.
func drawnFields(r *rand.Rand) (l []api.Field) {
	for _, i := range r.Perm(len(fields))[:r.Intn(len(fields)+1)] {
		l = append(l, drawnField(r, fields[i]))
	}
	return l
}

// drawnEvents are such as a store takes.
func drawnEvents(r *rand.Rand) (l []api.Event) {
	for range of(r, 1, 1, 2, 3) {
		l = append(l, event(of(r, append([]string{"none"}, kinds...)...), of(r, 0, 0, 0, 1, 2, 3), drawnFields(r)...))
	}
	return l
}

// drawnExpr is an expression of few nodes; most of them have a value, where few fields lack.
func drawnExpr(r *rand.Rand, depth int) api.Expr {
	if depth == 0 || in(r, 3) {
		return of(r, num(drawnInt(r)), num(r.Intn(9)), txt(drawnText(r)), self(), st(of(r, fields...)), gv("n"), gv("n"), gv(of(r, fields...)))
	}
	if in(r, 4) {
		return ex(of(r, api.ELen, api.EShow), drawnExpr(r, depth-1))
	}
	return ex(of(r, api.EAdd, api.EAdd, api.ESub, api.EMul, api.EJoin), drawnExpr(r, depth-1), drawnExpr(r, depth-1))
}

func drawnSets(r *rand.Rand) (l []api.Assign) {
	for _, i := range r.Perm(len(fields))[:r.Intn(len(fields)+1)] {
		l = append(l, as(fields[i], drawnExpr(r, r.Intn(2))))
	}
	return l
}

// drawnCond mostly hangs on the state, so that it is another one behind others' appends.
func drawnCond(r *rand.Rand) api.Cond {
	c := api.Cond{Kind: of(r, 1, 2, 2, 3, 3, 4, 4), Not: in(r, 3), A: st(of(r, fields...)), B: drawnExpr(r, r.Intn(2))}
	if in(r, 4) && c.Kind != api.CHas {
		c.A = drawnExpr(r, 1)
	}
	return c
}

func drawnCase(r *rand.Rand) (c api.Case) {
	for range of(r, 0, 0, 1, 1, 2) {
		c.When = append(c.When, drawnCond(r))
	}
	if in(r, 4) {
		c.Refuse = of(r, "empty", "nothing", strings.Repeat("\xff", 200))
		return c
	}
	for range of(r, 1, 1, 1, 2, 3, 16) {
		c.Emits = append(c.Emits, emit(of(r, append([]string{"none"}, kinds...)...), drawnSets(r)...))
	}
	return c
}

// drawnNeeds are mostly the integer n.
func drawnNeeds(r *rand.Rand) []api.Need {
	switch r.Intn(6) {
	case 0:
		return nil
	case 1:
		return []api.Need{{Name: "n", Text: true}, {Name: "a"}}
	}
	return []api.Need{{Name: "n"}}
}

// drawnRules are such as may be.
func drawnRules(r *rand.Rand) (t api.Rules) {
	for _, name := range names {
		if in(r, 8) {
			continue
		}
		h := api.Handler{Command: name, Needs: drawnNeeds(r)}
		for range of(r, 0, 1, 2, 2, 3, 3) {
			h.Cases = append(h.Cases, drawnCase(r))
		}
		t.Handlers = append(t.Handlers, h)
	}
	for _, kind := range kinds {
		if in(r, 6) {
			continue
		}
		v := does(kind, drawnSets(r)...)
		for range of(r, 0, 0, 0, 1) {
			v.Drops = append(v.Drops, of(r, fields...))
		}
		t.Evolves = append(t.Evolves, v)
	}
	return t
}

// begins is an Evolve by which a state has fields from the beginning on, so that conditions have something to ask for.
func begins() api.Evolve {
	v := does("begun")
	for _, name := range fields {
		v.Sets = append(v.Sets, as(name, gv(name)))
	}
	return v
}

// spoilRules adds something that may not be, ahead of what there is.
func spoilRules(r *rand.Rand, t api.Rules) api.Rules {
	bad := of(r, as("", txt("")), as("a", txt(strings.Repeat("x", 201))), as(strings.Repeat("a", 61), num(1)), as("b", ex(api.EAdd, num(1))), as("b", api.Expr{Kind: 77}))
	switch name := of(r, names...); r.Intn(4) {
	case 0:
		t.Evolves = append([]api.Evolve{does(of(r, kinds...), bad)}, t.Evolves...)
	case 1:
		t.Handlers = append([]api.Handler{emits(name, emit("done"), emit(of(r, "done", "", strings.Repeat("x", 61)), bad))}, t.Handlers...)
	case 2:
		t.Handlers = append([]api.Handler{broad(name, of(r, 17, 20), 1)}, t.Handlers...)
	case 3:
		t.Handlers = append([]api.Handler{broad(name, of(r, 9, 10), 200)}, t.Handlers...)
	}
	return t
}

// drawnUpcasts are such as may be; each fourth one stands twice, and one is from a version that is never reached.
func drawnUpcasts(r *rand.Rand) (l []api.Upcast) {
	for _, kind := range kinds {
		for version := range r.Intn(4) {
			u := api.Upcast{Type: kind, From: version}
			for range r.Intn(4) {
				u.Changes = append(u.Changes, api.Change{Kind: of(r, 1, 2, 3, 4, 5, 5), Name: of(r, fields...), To: of(r, fields...), F: drawnField(r, of(r, fields...))})
			}
			if l = append(l, u); in(r, 4) {
				l = append(l, api.Upcast{Type: kind, From: version})
			}
		}
	}
	l = append(l, api.Upcast{Type: of(r, kinds...), From: 7})
	r.Shuffle(len(l), func(i, j int) { l[i], l[j] = l[j], l[i] })
	return l
}

// drawnCommand is mostly one for which there is a handler, with what that needs; its key is often one that was there, and what it expects often what there is.
func drawnCommand(r *rand.Rand, w *world) api.Command {
	long := streams[2]
	c := api.Command{Stream: of(r, "acc", "acc", "acc", "acc", "box", long), Name: of(r, names...), Expected: -1}
	for _, h := range w.r.Handlers {
		if h.Command != c.Name {
			continue
		}
		for _, n := range h.Needs {
			f := number(n.Name, drawnInt(r))
			if n.Text {
				f = words(n.Name, drawnText(r))
			}
			c.Fields = slices.Insert(c.Fields, r.Intn(len(c.Fields)+1), f)
		}
		break
	}
	if in(r, 3) {
		version := len(w.m.of(c.Stream))
		c.Expected = of(r, version, version, version, version+1, version-1, 0, -2)
	}
	if in(r, 2) {
		c.Key = of(r, "k", "l", "m", fmt.Sprint(r.Intn(40)), strings.Repeat("k", 60))
	}
	if in(r, 12) {
		c.Fields = drawnFields(r)
	}
	if in(r, 30) {
		c.Name = of(r, "", "none", "Take")
	}
	if in(r, 40) {
		c.Stream = of(r, "", long+"s")
	}
	if in(r, 40) {
		c.Key = long + "k"
	}
	return c
}

// drawnWorld is one of drawn rules and upcasters, each fourth one of such as may not be; most streams have a state.
func drawnWorld(t testing.TB, r *rand.Rand, blocks int) *world {
	t.Helper()
	x := drawnRules(r)
	if in(r, 4) {
		x = spoilRules(r, x)
	}
	x.Evolves = append(x.Evolves, begins())
	w := begun(t, blocks, x, drawnUpcasts(r)...)
	for _, stream := range streams[:r.Intn(len(streams)+1)] {
		w.add(stream, "", event("begun", 0, number("a", r.Intn(9)), number("b", r.Intn(9)), number("left", r.Intn(90)), number("n", 1)))
	}
	return w
}

// told counts what steps have come to.
type told map[string]int

func (m told) count(x pair, d api.Done) {
	m[fmt.Sprintf("%d %d", d.Kind, d.E)]++
	if d.Kind == api.DConflict && x.p.failed == 3 {
		m["the third time"]++
	}
	if d.Kind == api.DDone {
		m[fmt.Sprint("done, the time ", x.p.failed+1)]++
	}
}

// drawnStep steps one of the jobs, or lets one begin that is new, mostly in the place of one that is done.
func drawnStep(r *rand.Rand, w *world, jobs []pair, m told) {
	w.t.Helper()
	at := r.Intn(len(jobs))
	if jobs[at].j == nil || in(r, 40) || jobs[at].p.came != notYet && !in(r, 4) {
		jobs[at] = w.job(drawnCommand(r, w))
	}
	m.count(jobs[at], w.step(jobs[at]))
}

// P16.1 to P16.4: drawn rules, upcasters, commands and orders, with others' appends, kept states and crashes in between, held against the plain account.
func TestDrawn(t *testing.T) {
	r := rand.New(rand.NewSource(1))
	m := told{}
	for range 300 {
		w := drawnWorld(t, r, of(r, 64, 64, 80, 512))
		jobs := make([]pair, of(r, 1, 2, 3, 5))
		for range 250 {
			switch r.Intn(30) {
			case 0:
				w.tries(of(r, "acc", "box"), "", drawnEvents(r))
			case 1:
				w.tries("acc", fmt.Sprint(r.Intn(40)), drawnEvents(r))
			case 2:
				w.snap(of(r, "acc", "box"))
			case 3:
				w.reopen(r.Intn(3), r.Intn(3))
			case 4:
				w.is()
			default:
				drawnStep(r, w, jobs, m)
			}
		}
		w.is()
	}
	for what, least := range map[string]int{
		"0 0": 2000, "1 0": 1000, "2 0": 300, "3 0": 300, "4 0": 500, "5 0": 20,
		"6 1": 20, "6 100": 20, "6 101": 20, "6 102": 20, "6 110": 10,
		"6 132": 20, "6 133": 100, "6 134": 100, "6 135": 20, "6 136": 100, "6 137": 100,
		"the third time": 10, "done, the time 2": 50, "done, the time 3": 10,
	} {
		if m[what] < least {
			t.Errorf("%s: %d times", what, m[what])
		}
	}
}

// tries appends events without a job, which may be refused for want of room, or for the key.
func (w *world) tries(stream, key string, l []api.Event) {
	w.t.Helper()
	a, e := w.s.Append(stream, -1, key, l)
	if _, _, _, _, known := w.m.keyed(key); known {
		if e != api.ErrStreamKey && !a.Again {
			w.t.Fatalf("Append to %q: %v, %v", stream, a, e)
		}
		return
	}
	if want := w.m.add(stream, key, l); e != want {
		w.t.Fatalf("Append to %q: %v, not %v", stream, e, want)
	}
}

// P16.4: the same with a device that stops; each command is sent again with its key till it is answered.
func TestDrawnStops(t *testing.T) {
	r := rand.New(rand.NewSource(2))
	m, stopped, kept := told{}, 0, 0
	for range 200 {
		w := drawnWorld(t, r, of(r, 64, 128))
		jobs := make([]pair, 3)
		for range 120 {
			drawnStep(r, w, jobs, m)
			if in(r, 10) {
				w.snap("acc")
			}
			x := jobs[r.Intn(len(jobs))]
			if x.j == nil || x.p.came != notYet {
				continue
			}
			was, p := w.m.copy(), *x.p
			want, _ := w.m.step(x.p, w.r, w.l)
			w.d.Fuse(r.Intn(12))
			d, _ := x.j.Step(w.s, w.r, w.l)
			w.d.Fuse(-1)
			if !w.d.Down() {
				if d != want {
					t.Fatalf("%+v: %+v, not %+v", p.c, d, want)
				}
				continue
			}
			if d != down {
				t.Fatalf("%+v: %+v, not %+v", p.c, d, down)
			}
			x.p.came = down
			w.reopen(r.Intn(4), r.Intn(4), r.Intn(4), r.Intn(4), r.Intn(4), r.Intn(4))
			w.isEither(was, w.m)
			if stopped++; len(w.m.batches) > len(was.batches) {
				kept++
			}
			if x.p.c.Key != "" {
				m.count(x, w.run(x.p.c))
			}
		}
		w.is()
		w.reopen()
		w.is()
	}
	if stopped < 300 || kept < 30 || stopped-kept < 100 {
		t.Errorf("%d stopped, of which %d are kept", stopped, kept)
	}
}

// The rules that are drawn are often such as may be, and often not, and the upcasters too.
func TestDrawnTables(t *testing.T) {
	r := rand.New(rand.NewSource(3))
	n := map[bool]int{}
	for range 400 {
		w := drawnWorld(t, r, 64)
		n[rules.Check(w.r) == api.OK && upcast.Check(w.l) == api.OK]++
	}
	if n[true] < 50 || n[false] < 50 {
		t.Errorf("%v", n)
	}
}
