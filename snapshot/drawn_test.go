package snapshot

import (
	"fmt"
	"math/rand"
	"slices"
	"strings"
	"testing"

	"cartulary/api"
	"cartulary/codec"
	"cartulary/rules"
	"cartulary/upcast"
)

// of is one of the things.
func of[T any](r *rand.Rand, l ...T) T { return l[r.Intn(len(l))] }

// in tells whether one of so many times is now.
func in(r *rand.Rand, n int) bool { return r.Intn(n) == 0 }

// fields and kinds are few, so that they meet.
var (
	fields = []string{"a", "b", "c", "left", "n"}
	kinds  = []string{"done", "given", "taken"}
)

func drawnInt(r *rand.Rand) int {
	if in(r, 6) {
		return of(r, bound, -bound, bound+1, 31_622_776, -31_622_777, 1<<32, most, least)
	}
	return r.Intn(9) - 2
}

func drawnText(r *rand.Rand) string {
	return of(r, "", "x", "5", "\x00\xff", "&=%'", strings.Repeat("y", 99), strings.Repeat("\xff", 200))
}

// drawnField is one that a store takes.
func drawnField(r *rand.Rand, name string) api.Field {
	if in(r, 3) {
		return words(name, drawnText(r))
	}
	return number(name, drawnInt(r))
}

// drawnEvent is one that a store takes: its fields are in any order, and some names are none of a record's.
func drawnEvent(r *rand.Rand) api.Event {
	e := event(of(r, append([]string{"none", "A"}, slices.Concat(kinds, kinds, kinds)...)...), of(r, 0, 0, 0, 1, 1, 2, 3, 4, api.MaxVersion))
	for _, i := range r.Perm(len(fields))[:r.Intn(len(fields)+1)] {
		e.Fields = append(e.Fields, drawnField(r, fields[i]))
	}
	if in(r, 8) {
		e.Fields = append(e.Fields, drawnField(r, of(r, "A", "\xff", "z z", strings.Repeat("a", 60))))
	}
	return e
}

// drawnExpr is an expression of few nodes, most of which have a value.
func drawnExpr(r *rand.Rand, depth int) api.Expr {
	if depth == 0 || in(r, 3) {
		return of(r, num(drawnInt(r)), num(r.Intn(9)), txt(drawnText(r)), self(), st(of(r, fields...)), gv(of(r, fields...)), gv(of(r, fields...)))
	}
	if in(r, 4) {
		return ex(of(r, api.ELen, api.EShow), drawnExpr(r, depth-1))
	}
	return ex(of(r, api.EAdd, api.EAdd, api.ESub, api.EMul, api.EJoin), drawnExpr(r, depth-1), drawnExpr(r, depth-1))
}

// drawnRules are such as may be.
func drawnRules(r *rand.Rand) api.Rules {
	var t api.Rules
	for _, kind := range kinds {
		if in(r, 6) {
			continue
		}
		v := api.Evolve{Type: kind}
		for range r.Intn(6) {
			v.Sets = append(v.Sets, as(of(r, append([]string{"x", "y"}, fields...)...), drawnExpr(r, r.Intn(3))))
		}
		if in(r, 4) {
			v.Sets = drawnSets(r)
		}
		for range r.Intn(3) {
			v.Drops = append(v.Drops, of(r, append([]string{"x", "f05"}, fields...)...))
		}
		t.Evolves = append(t.Evolves, v)
	}
	return t
}

// drawnSets are so many that there is little room, or none; some are of texts with which a state is too long to be saved.
func drawnSets(r *rand.Rand) (l []api.Assign) {
	heavy := in(r, 3)
	for i := range of(r, 10, 14, 16) {
		e := drawnExpr(r, 0)
		if heavy {
			e = txt(strings.Repeat("\xff", 200-r.Intn(2)*r.Intn(90)))
		}
		l = append(l, as(fmt.Sprintf("f%02d", i), e))
	}
	return l
}

// spoilRules changes one thing of rules, to something that may not be.
func spoilRules(r *rand.Rand, t *api.Rules) {
	bad := of(r, as("A", num(1)), as("", txt("")), as("a", txt(strings.Repeat("x", 201))), as(strings.Repeat("a", 33), gv("n")), as("b", ex(api.EAdd, num(1))), as("b", api.Expr{Kind: 77}), as("é", st("a")))
	if len(t.Evolves) == 0 || in(r, 4) {
		v := does(of(r, kinds...), bad)
		t.Evolves = slices.Insert(t.Evolves, r.Intn(len(t.Evolves)+1), v)
		return
	}
	v := &t.Evolves[r.Intn(len(t.Evolves))]
	v.Sets = append(v.Sets, bad)
}

// drawnUpcasts are such as may be.
func drawnUpcasts(r *rand.Rand) (l []api.Upcast) {
	some := append([]string{"f03", "z"}, fields...)
	for _, kind := range kinds {
		for version := range r.Intn(5) {
			u := api.Upcast{Type: kind, From: version}
			for range r.Intn(4) {
				u.Changes = append(u.Changes, api.Change{Kind: of(r, 1, 2, 3, 3, 4, 5, 5), Name: of(r, some...), To: of(r, some...), F: drawnField(r, of(r, some...))})
			}
			l = append(l, u)
		}
	}
	r.Shuffle(len(l), func(i, j int) { l[i], l[j] = l[j], l[i] })
	return l
}

// spoilUpcasts puts one into the list that may not be there.
func spoilUpcasts(r *rand.Rand, l []api.Upcast) []api.Upcast {
	f := of(r, api.Field{Name: "a", N: 1, S: "x"}, words("b", strings.Repeat("x", 201)), number("A", 1), number("", 2))
	u := api.Upcast{Type: of(r, kinds...), From: of(r, 0, 0, 1, -1, most), Changes: []api.Change{{Kind: of(r, 1, 1, 1, 0, 9), F: f}}}
	return slices.Insert(l, r.Intn(len(l)+1), u)
}

// drawnWorld is one of drawn rules and upcasters, each third one of such as may not be.
func drawnWorld(t testing.TB, r *rand.Rand, blocks int) *world {
	t.Helper()
	x, l := drawnRules(r), drawnUpcasts(r)
	if in(r, 3) {
		spoilRules(r, &x)
	}
	if in(r, 6) {
		l = spoilUpcasts(r, l)
	}
	return begin(t, blocks, x, l...)
}

func drawnEvents(r *rand.Rand) (l []api.Event) {
	for range of(r, 1, 1, 2, 3) {
		l = append(l, drawnEvent(r))
	}
	return l
}

// P15.1: State is what a plain fold of the events comes to.
func TestDrawnStates(t *testing.T) {
	r := rand.New(rand.NewSource(1))
	long, records, others, changed := map[int]int{}, 0, 0, 0
	for range 400 {
		w := drawnWorld(t, r, 64)
		last := 0
		for range 12 {
			w.try(of(r, "s", "s", "s", strings.Repeat("t", 60)), drawnEvents(r)...)
			w.load("s")
			w.load(strings.Repeat("t", 60))
			state := w.state("s")
			long[len(state)]++
			if plainRecord(state) {
				records++
			} else {
				others++
			}
			if len(state) != last {
				changed++
			}
			last = len(state)
		}
	}
	if records < 2000 || others < 200 || changed < 500 || long[0] < 100 || long[1] < 100 || long[4] < 100 || long[16] < 20 {
		t.Errorf("%v; %d records, %d others, %d changed", long, records, others, changed)
	}
}

// P15.2, P15.3, P15.4: all that may be done, drawn: of streams that share their names and such as do not; Load's first answers are State's, and its last number is that of a Take that was answered OK: of the last one, if nothing fell in its place.
func TestDrawnTakes(t *testing.T) {
	r := rand.New(rand.NewSource(2))
	told := map[string]int{}
	for range 150 {
		w := drawnWorld(t, r, 256)
		streams := append(alike("stream"), "stream", "acc", "box", strings.Repeat("\xff", 60))
		for range 60 {
			stream := of(r, streams...)
			switch r.Intn(9) {
			case 0, 1, 2, 3:
				w.try(stream, drawnEvents(r)...)
			case 4, 5, 6:
				drawnTake(w, stream, told)
			case 7:
				w.reopen(r.Intn(3), r.Intn(3), r.Intn(3))
			case 8:
				w.s.Save("x", []byte(drawnText(r)))
				w.saved["x"] = w.lies("x")
			}
			for _, stream := range streams {
				from := w.load(stream)
				if from != 0 && !slices.Contains(w.taken[stream], from) {
					t.Fatalf("from %d, not one of %v", from, w.taken[stream])
				}
				if last := w.last(stream); len(stream) != 6 && from != last {
					t.Fatalf("%q: from %d, not %d", stream, from, last)
				}
			}
		}
		w.is(streams...)
	}
	for _, what := range []string{"kept", "no record", "too long", "without events"} {
		if told[what] < 20 {
			t.Errorf("%s: %d times", what, told[what])
		}
	}
}

// last is how many events a stream had at the last Take that must have kept something.
func (w *world) last(stream string) int {
	for _, n := range slices.Backward(w.taken[stream]) {
		if state := plainState(w.r, w.l, stream, w.events[stream][:n]); n > 0 && plainRecord(state) && !tooLong(stream, n, state) {
			return n
		}
	}
	return 0
}

// tooLong tells whether a record is too long to be saved: with its text are laid a sum, the stream's name, how many events, and how long the text is.
func tooLong(stream string, n int, state []api.Field) bool {
	long := plainLong(state)
	return 4+len(textOf(stream))+len(intOf(n))+len(codec.PutUint(nil, uint64(long)))+long > 8000
}

// drawnTake takes, and asks what it has kept.
func drawnTake(w *world, stream string, told map[string]int) {
	w.t.Helper()
	state, was := w.state(stream), w.load(stream)
	w.take(stream)
	from, want, what := w.load(stream), was, ""
	switch {
	case w.count(stream) == 0:
		what = "without events"
	case !plainRecord(state):
		what = "no record"
	case tooLong(stream, w.count(stream), state):
		what = "too long"
	default:
		want, what = w.count(stream), "kept"
	}
	if told[what]++; from != want {
		w.t.Fatalf("%s: from %d, not %d", what, from, want)
	}
}

// P15.4: the same with crashes: each Take may stop; behind it all goes on, and Load's last number is that of one of the Takes, this one too.
func TestDrawnStops(t *testing.T) {
	r := rand.New(rand.NewSource(3))
	stopped := 0
	for range 60 {
		w := drawnWorld(t, r, 64)
		streams := append(alike("stream")[:1], "stream", "acc")
		for range 40 {
			stream := of(r, streams...)
			if in(r, 2) {
				w.try(stream, drawnEvents(r)...)
			}
			w.d.Fuse(r.Intn(30))
			e := Take(w.s, w.r, w.l, stream)
			w.d.Fuse(-1)
			switch e {
			case api.OK, api.ErrDown:
				w.noteTake(stream)
			case api.ErrStoreSpace:
			default:
				t.Fatal(e)
			}
			if e == api.ErrDown {
				stopped++
				picks := make([]int, 20)
				for i := range picks {
					picks[i] = r.Intn(4)
				}
				w.reopen(picks...)
			}
			w.is(streams...)
		}
	}
	if stopped < 200 {
		t.Errorf("stopped %d times", stopped)
	}
}

// The rules and upcasters that are drawn are often such as may be, and often not.
func TestDrawnTables(t *testing.T) {
	r := rand.New(rand.NewSource(4))
	right, wrong := 0, 0
	for range 300 {
		w := drawnWorld(t, r, 64)
		if rules.Check(w.r) == api.OK && upcast.Check(w.l) == api.OK {
			right++
		} else {
			wrong++
		}
	}
	if right < 100 || wrong < 50 {
		t.Errorf("%d may be, %d not", right, wrong)
	}
}
