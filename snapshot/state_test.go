package snapshot

import (
	"fmt"
	"slices"
	"strings"
	"testing"

	"cartulary/api"
	"cartulary/store"
)

// states asks for a stream's state, as State and Load tell it.
func (w *world) states(stream string, n int, want ...api.Field) {
	w.t.Helper()
	if got := w.state(stream); !slices.Equal(got, want) || w.count(stream) != n {
		w.t.Fatalf("the plain state of %q: %v, %d, not %v, %d", stream, got, w.count(stream), want, n)
	}
	w.load(stream)
}

// The chapter's examples.
func TestExamples(t *testing.T) {
	w := begin(t, 64, chapter())
	w.add("acc", opened(5), taken(2))
	w.states("acc", 2, number("left", 3))
	w.loads("acc", 0)
	w.take("acc")
	w.states("acc", 2, number("left", 3))
	w.loads("acc", 2)
	w.add("acc", taken(1))
	w.states("acc", 3, number("left", 2))
	w.loads("acc", 2)
	w.reopen(1, 0, 1)
	w.loads("acc", 2)
	w.is()
}

// P15.1: a stream without events, with one, and with many, one batch behind the other.
func TestStateOfMany(t *testing.T) {
	w := begin(t, 512, chapter())
	w.states("acc", 0)
	w.add("acc", opened(1000))
	w.states("acc", 1, number("left", 1000))
	for i := range 60 {
		var l []api.Event
		for range 1 + i%16 {
			l = append(l, taken(i))
		}
		w.add("acc", l...)
		w.add("box", opened(i))
		w.load("acc")
		w.load("box")
	}
	left := 1000
	for i := range 60 {
		left -= i * (1 + i%16)
	}
	w.states("acc", w.count("acc"), number("left", left))
	if n := w.count("acc"); n < 400 {
		t.Errorf("%d events", n)
	}
	w.states("box", 60, number("left", 59))
	w.take("acc")
	w.loads("acc", w.count("acc"))
	w.is()
}

// P15.1: names of streams: of one that may not be there are no events; the longest one that may be; any bytes.
func TestStateNames(t *testing.T) {
	w := begin(t, 128, table(does("opened", as("me", self()), as("long", ex(api.ELen, self())))))
	for _, stream := range []string{"a", "A", "a b", "\x00", "\xff\xfe", "snap.", "é", "a/b", strings.Repeat("s", 59), strings.Repeat("s", 60), strings.Repeat("\x00", 60)} {
		w.add(stream, opened(1))
		w.states(stream, 1, number("long", len(stream)), words("me", stream))
		w.take(stream)
		w.loads(stream, 1)
		w.add(stream, opened(1))
		w.loads(stream, 1)
	}
	w.is()
	was, ops := w.s.Names(), w.d.Ops()
	for _, stream := range []string{"", strings.Repeat("s", 61), strings.Repeat("s", 10000)} {
		if e := w.try(stream, opened(1)); e != api.ErrStreamName {
			t.Errorf("%v", e)
		}
		w.states(stream, 0)
		w.loads(stream, 0)
		w.take(stream)
		w.loads(stream, 0)
	}
	if !slices.Equal(w.s.Names(), was) || w.d.Ops() != ops {
		t.Errorf("names %q, not %q; %d operations", w.s.Names(), was, w.d.Ops()-ops)
	}
}

// P15.1: the fields of a state: none, one, the most that may be, and no seventeenth.
func TestStateFields(t *testing.T) {
	for _, n := range []int{0, 1, 2, 15, 16, 17, 20} {
		w := begin(t, 64, full(n))
		w.add("s", event("fill", 0, words("s", "x")))
		var want []api.Field
		for i := range min(n, 16) {
			want = append(want, words(fmt.Sprintf("f%02d", i), "x"))
		}
		w.states("s", 1, want...)
		w.take("s")
		w.states("s", 1, want...)
		w.loads("s", 1)
		w.add("s", event("begin", 0), event("count", 0))
		if n < 16 {
			want = append(want, number("n", 1))
		}
		w.states("s", 3, want...)
		w.loads("s", 1)
		w.take("s")
		w.loads("s", 3)
		w.is()
	}
}

// P15.1: values at the edges: the least and the greatest integers, empty texts, the longest, all bytes; they are kept as they are.
func TestStateValues(t *testing.T) {
	every := make([]byte, 256)
	for i := range every {
		every[i] = byte(i)
	}
	for _, f := range []api.Field{
		number("n", 0), number("n", -1), number("n", most), number("n", least), number("n", bound), number("n", -bound-1),
		words("n", ""), words("n", "'"), words("n", "&=%'"), words("n", "%41"), words("n", "5"), words("n", string(every[:128])), words("n", string(every[128:])), words("n", strings.Repeat("x", 200)), words("n", strings.Repeat("\xff", 200)),
	} {
		w := begin(t, 64, table(does("set", as("x", gv("n"))), does("more", as("y", st("x")))))
		w.add("s", event("set", 0, f))
		x, y := f, f
		x.Name, y.Name = "x", "y"
		w.states("s", 1, x)
		w.take("s")
		w.loads("s", 1)
		w.add("s", event("more", 0))
		w.states("s", 2, x, y)
		w.loads("s", 1)
		w.reopen()
		w.loads("s", 1)
		w.take("s")
		w.loads("s", 2)
	}
}

// P15.1: events in their order: what the later one does it does to what the elder ones have left.
func TestStateOrder(t *testing.T) {
	join := func(kind string) api.Evolve {
		return does(kind, as("all", ex(api.EJoin, st("all"), txt(kind))))
	}
	w := begin(t, 64, table(does("begin", as("all", txt(""))), join("a"), join("b"), join("c"), api.Evolve{Type: "end", Drops: []string{"all"}}))
	w.add("s", event("a", 0), event("begin", 0), event("a", 0), event("b", 0))
	w.add("other", event("begin", 0), event("c", 0))
	w.add("s", event("b", 0), event("c", 0), event("a", 0))
	w.states("s", 7, words("all", "abbca"))
	w.states("other", 2, words("all", "c"))
	w.take("s")
	w.add("s", event("a", 0), event("c", 0))
	w.states("s", 9, words("all", "abbcaac"))
	w.loads("s", 7)
	w.add("s", event("end", 0))
	w.states("s", 10)
	w.take("s")
	w.loads("s", 10)
	w.add("s", event("a", 0))
	w.states("s", 11)
	w.add("s", event("begin", 0), event("b", 0))
	w.states("s", 13, words("all", "b"))
	w.loads("s", 10)
	w.is()
}

// P15.1: events of elder versions are brought up, of all types, behind what was kept too; an event without a rule does nothing, and is counted.
func TestStateUpcasts(t *testing.T) {
	l := []api.Upcast{
		{Type: "taken", Changes: []api.Change{{Kind: api.URename, Name: "n", To: "count"}}},
		{Type: "taken", From: 1, Changes: []api.Change{{Kind: api.UScale, Name: "count", F: number("", 100)}}},
		{Type: "opened", From: 3, Changes: []api.Change{{Kind: api.UAdd, F: number("n", 7000)}}},
	}
	r := table(does("opened", as("left", gv("n"))), does("taken", as("left", ex(api.ESub, st("left"), gv("count")))))
	w := begin(t, 64, r, l...)
	w.add("s", event("opened", 3))
	w.states("s", 1, number("left", 7000))
	w.add("s", event("taken", 0, number("n", 3)))
	w.states("s", 2, number("left", 6700))
	w.take("s")
	w.add("s", event("taken", 1, number("count", 2)))
	w.states("s", 3, number("left", 6500))
	w.add("s", event("taken", 2, number("count", 2)))
	w.states("s", 4, number("left", 6498))
	w.add("s", event("taken", 2, number("n", 2)), event("taken", 3, number("count", 8)), event("none", 0, number("count", 8)))
	w.states("s", 7, number("left", 6490))
	w.loads("s", 2)
	w.take("s")
	w.loads("s", 7)
	w.add("s", event("taken", 0, number("n", 1)), event("other", 0))
	w.states("s", 9, number("left", 6390))
	w.loads("s", 7)
	w.reopen()
	w.is()
}

// P15.1: of no rules at all the state is empty; it is kept all the same.
func TestStateWithoutRules(t *testing.T) {
	for _, r := range []api.Rules{{}, {Evolves: []api.Evolve{}}, {Handlers: []api.Handler{{Command: "take"}}}, table(does("other", as("n", num(1))))} {
		w := begin(t, 64, r)
		w.add("s", opened(1), taken(2))
		w.states("s", 2)
		w.loads("s", 0)
		w.take("s")
		w.states("s", 2)
		w.loads("s", 2)
		w.add("s", opened(1))
		w.states("s", 3)
		w.loads("s", 2)
	}
}

// strange are tables by which the state behind an event `x` is no record, whatever way.
func strange() map[string]api.Rules {
	m := map[string]api.Rules{
		"a text that is too long":       table(does("x", as("a", txt(strings.Repeat("x", 201))))),
		"such a text of a field":        table(does("x", as("a", txt(strings.Repeat("x", 201)))), does("y", as("b", st("a")))),
		"two Evolves, the first counts": table(does("x", as("A", num(1))), does("x", as("a", num(2)))),
	}
	for _, name := range []string{"", "A", "a=", "a&b", "0", "_", "é", "\xff", strings.Repeat("a", 33), strings.Repeat("a", 3000)} {
		m[fmt.Sprintf("a name %.9q %d", name, len(name))] = table(does("x", as("b", num(1)), as(name, num(1))))
	}
	return m
}

// P15.1, P15.2: by rules that may not be a state is no record: it is told all the same, need not be kept, and Take answers OK; what was kept ahead of it counts on.
func TestNoRecord(t *testing.T) {
	for name, r := range strange() {
		t.Run(name, func(t *testing.T) {
			r.Evolves = append(r.Evolves, does("good", as("g", num(5))), api.Evolve{Type: "bare", Drops: []string{"a", "b", "", "A", "a=", "a&b", "0", "_", "é", "\xff", strings.Repeat("a", 33), strings.Repeat("a", 3000)}})
			w := begin(t, 64, r)
			w.add("s", event("good", 0))
			w.take("s")
			w.add("s", event("x", 0))
			if plainRecord(w.state("s")) {
				t.Fatalf("%v is a record", w.state("s"))
			}
			was, ops := w.s.Names(), w.d.Ops()
			w.take("s")
			if w.d.Ops() != ops || !slices.Equal(w.s.Names(), was) {
				t.Errorf("something is kept: %q, not %q", w.s.Names(), was)
			}
			w.loads("s", 1)
			w.add("s", event("y", 0))
			w.loads("s", 1)
			w.reopen()
			w.loads("s", 1)
			w.add("s", event("bare", 0), event("bare", 0))
			if l := w.state("s"); plainRecord(l) {
				w.take("s")
				w.loads("s", w.count("s"))
			}
			w.is()
		})
	}
}

// P15.1: upcasters that may not be are done as they stand.
func TestStrangeUpcasts(t *testing.T) {
	l := []api.Upcast{
		{Type: "x", Changes: []api.Change{{Kind: api.UAdd, F: words("a", strings.Repeat("x", 201))}, {Kind: 77}, {}}},
		{Type: "x", Changes: []api.Change{{Kind: api.UAdd, F: words("a", "not this one")}}},
		{Type: "x", From: 1, Changes: []api.Change{{Kind: api.UAdd, F: api.Field{Name: "b", N: 5, S: "five"}}}},
		{From: least}, {Type: "x", From: -1}, {Type: "x", From: most},
	}
	r := table(does("x", as("a", gv("a")), as("b", gv("b"))), does("bare", as("a", num(1)), as("b", num(2))))
	w := begin(t, 64, r, l...)
	w.add("s", event("bare", 0), event("x", 2, number("a", 1)))
	w.take("s")
	w.loads("s", 2)
	w.add("s", event("x", 0))
	w.states("s", 3, words("a", strings.Repeat("x", 201)), api.Field{Name: "b", N: 5, S: "five"})
	w.take("s")
	w.loads("s", 2)
	w.add("s", event("x", 1, number("a", 1)))
	w.states("s", 4, number("a", 1), api.Field{Name: "b", N: 5, S: "five"})
	w.take("s")
	w.loads("s", 2)
	w.add("s", event("bare", 0))
	w.states("s", 5, number("a", 1), number("b", 2))
	w.take("s")
	w.loads("s", 5)
}

// R1, P15.1: no store, and one that a hand made: ErrArg, and zeros, ahead of all else.
func TestNoStore(t *testing.T) {
	for _, s := range []*store.Store{nil, {}} {
		for _, stream := range []string{"", "acc", strings.Repeat("s", 61)} {
			for _, r := range []api.Rules{{}, chapter(), table(does("", as("", api.Expr{Kind: -1})))} {
				for _, l := range [][]api.Upcast{nil, {{From: -1}}} {
					state, n, e := State(s, r, l, stream)
					if len(state) != 0 || n != 0 || e != api.ErrArg {
						t.Errorf("State: %v, %d, %v", state, n, e)
					}
					state, n, from, e := Load(s, r, l, stream)
					if len(state) != 0 || n != 0 || from != 0 || e != api.ErrArg {
						t.Errorf("Load: %v, %d, %d, %v", state, n, from, e)
					}
					if e := Take(s, r, l, stream); e != api.ErrArg {
						t.Errorf("Take: %v", e)
					}
				}
			}
		}
	}
}

// State does no operation of the device, and neither State nor Load changes anything.
func TestAskedOnly(t *testing.T) {
	w := begin(t, 64, chapter())
	w.add("acc", opened(5), taken(2))
	w.take("acc")
	w.save("other", "x")
	w.reopen()
	was, ops := bytesOf(t, w.d), w.d.Ops()
	for range 3 {
		State(w.s, w.r, w.l, "acc")
		State(w.s, w.r, w.l, "none")
	}
	if w.d.Ops() != ops {
		t.Errorf("%d operations", w.d.Ops()-ops)
	}
	for range 3 {
		w.is()
	}
	if w.reopen(); bytesOf(t, w.d) != was {
		t.Error("something is changed")
	}
}
