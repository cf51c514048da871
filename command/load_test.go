package command

import (
	"fmt"
	"strings"
	"testing"

	"cartulary/api"
)

// P16.2: a Stream and a Key of no bytes, of one, of MaxName and of one more.
func TestNames(t *testing.T) {
	w := begun(t, 128, chapter())
	place := 0
	for _, stream := range []int{0, 1, 59, 60, 61, 62, 5000} {
		for i, key := range []int{0, 1, 59, 60, 61, 62, 5000} {
			// Keys of other streams are other ones' alone by their last byte.
			c := order(strings.Repeat("\xff", stream), "open", "", 1)
			if key > 0 {
				c.Key = strings.Repeat("\x00", key-1) + string([]byte{byte(stream)})
			}
			if stream < 1 || stream > 60 || key > 60 {
				w.does(c, badly(api.ErrStreamName))
				continue
			}
			w.does(c, notYet, came(api.DDone, i, place, 1))
			if place++; key > 0 {
				w.does(c, came(api.DAgain, i, place-1, 1))
			}
		}
	}
	if n := w.s.Length(); n != 12 || place != n {
		t.Errorf("%d events", n)
	}
}

// P16.2: Expected below -1, -1, 0, the version and one beside it, of streams that are there, and of one that is not.
func TestExpected(t *testing.T) {
	for version := range 4 {
		first := begun(t, 64, chapter())
		for i := range version {
			first.add("acc", "", opened(i))
		}
		first.add("box", "", opened(1), opened(2))
		for _, n := range []int{least, least + 1, -1 << 32, -3, -2, -1, 0, 1, 2, 3, 4, 5, 1 << 32, most} {
			w := first.again()
			c := expecting(order("acc", "open", "", 7), n)
			switch {
			case n < -1:
				w.does(c, badly(api.ErrArg))
			case n == -1, n == version:
				w.does(c, notYet, came(api.DDone, version, version+2, 1))
			default:
				w.does(c, conflict)
			}
		}
	}
}

// P16.2: a key that is known, of this stream and of another one: of a batch of several events, also one that no command has added.
func TestKeys(t *testing.T) {
	w := acc(t, 128)
	w.add("box", "of box", opened(1), taken(1), taken(2))
	w.add("acc", "of acc", taken(1), taken(1))
	w.does(keyed(take(1), "of acc"), came(api.DAgain, 1, 4, 2))
	w.does(keyed(take(1), "of box"), badly(api.ErrStreamKey))
	w.does(order("box", "open", "of box", 1), came(api.DAgain, 0, 1, 3))
	w.does(order("new", "open", "of box", 1), badly(api.ErrStreamKey))
	// The key alone tells it: neither what else the command has nor what has come since.
	w.add("acc", "", opened(100))
	for _, c := range []api.Command{
		{Stream: "acc", Key: "of acc"},
		{Stream: "acc", Key: "of acc", Expected: least, Name: "none"},
		{Stream: "acc", Key: "of acc", Expected: most, Name: "take", Fields: []api.Field{number("a", 1), words("b", "c")}},
		{Stream: "acc", Key: "of acc", Expected: -1, Name: "take", Fields: []api.Field{number("n", 1000)}},
	} {
		w.does(c, came(api.DAgain, 1, 4, 2))
		c.Stream = "box"
		w.does(c, badly(api.ErrStreamKey))
	}
	// A key is known by all its bytes; the empty one never is.
	for _, key := range []string{"of ac", "of acc\x00", "OF ACC", "acc", "\x00"} {
		w.does(keyed(take(0), key), never("nothing"))
	}
	w.does(take(0), never("nothing"))
}

// fault is something that is wrong with a command, and what comes of it.
type fault struct {
	name string
	spoil
	want api.Done
}

type spoil = func(c *api.Command)

// faults are what P16.2 asks, in its order; of one rank, and of the third and the fourth, no two meet.
func faults() [][]fault {
	long := strings.Repeat("x", 61)
	name, key, unknown := badly(api.ErrStreamName), badly(api.ErrStreamKey), badly(api.ErrRulesNone)
	return [][]fault{
		{
			{"no stream", func(c *api.Command) { c.Stream = "" }, name},
			{"a long stream", func(c *api.Command) { c.Stream = long }, name},
			{"a long key", func(c *api.Command) { c.Key = long }, name},
		},
		{
			{"this stream's key", func(c *api.Command) { c.Key += "k" }, came(api.DAgain, 1, 1, 1)},
			{"another one's key", func(c *api.Command) { c.Key += "b" }, key},
		},
		{{"Expected -2", func(c *api.Command) { c.Expected = -2 }, badly(api.ErrArg)}},
		{{"Expected 1", func(c *api.Command) { c.Expected = 1 }, conflict}},
		{
			{"no such command", func(c *api.Command) { c.Name = "give" }, unknown},
			{"no command", func(c *api.Command) { c.Name = "" }, unknown},
		},
		{
			{"too few fields", func(c *api.Command) { c.Fields = nil }, badly(api.ErrRulesNeeds)},
			{"too many fields", func(c *api.Command) { c.Fields = []api.Field{number("m", 1), number("n", 1)} }, badly(api.ErrRulesNeeds)},
			{"another field", func(c *api.Command) { c.Fields = []api.Field{number("m", 1)} }, badly(api.ErrRulesNeeds)},
			{"another kind of field", func(c *api.Command) { c.Fields = []api.Field{words("n", "1")} }, badly(api.ErrRulesNeeds)},
			{"what is refused", func(c *api.Command) { c.Fields = []api.Field{number("n", 9)} }, never("empty")},
			{"what is refused first", func(c *api.Command) { c.Fields = []api.Field{number("n", 0)} }, never("nothing")},
		},
	}
}

// P16.2: the first of what is wrong counts: each fault alone, and any set of them at once, one of a rank.
func TestOrderOfFaults(t *testing.T) {
	w := acc(t, 64)
	w.add("acc", "k", taken(1))
	w.add("box", "b", opened(1))
	var told int
	var try func(name string, rest [][]fault, c api.Command, want api.Done)
	try = func(name string, rest [][]fault, c api.Command, want api.Done) {
		if len(rest) == 0 {
			x := w.job(c)
			told++
			if got := w.step(x); got != want {
				t.Fatalf("%s: %+v, not %+v", name, got, want)
			}
			return
		}
		try(name, rest[1:], c, want)
		for _, f := range rest[0] {
			next, first := c, want
			f.spoil(&next)
			if first == notYet {
				first = f.want
			}
			try(name+", "+f.name, rest[1:], next, first)
		}
	}
	ranks := faults()
	try("", append(ranks[:2:2], ranks[3:]...), take(1), notYet)
	try("", append(ranks[:3:3], ranks[4:]...), take(1), notYet)
	if told != 4*3*(2+2)*3*7 {
		t.Errorf("%d", told)
	}
	w.is()
}

// P16.2: Decide's errors, each of them; and what is refused for want of a case, and without a reason.
func TestDecisions(t *testing.T) {
	n := as("n", gv("n"))
	r := with(chapter(),
		emits("field", emit("x", as("a", st("none")))),
		emits("type", emit("x", as("a", ex(api.EAdd, st("left"), txt("1"))))),
		emits("range", emit("x", as("a", ex(api.EMul, num(bound), num(2))))),
		emits("form", emit("x", as("a", ex(api.EAdd, num(1))))),
		emits("second", emit("x", as("a", num(1))), emit("x", as("a", gv("none")))),
		api.Handler{Command: "cond", Cases: []api.Case{{When: []api.Cond{{Kind: 9}}, Refuse: "x"}}},
		api.Handler{Command: "when", Cases: []api.Case{{When: less(st("left"), txt("")), Refuse: "x"}}},
		api.Handler{Command: "nocase"},
		api.Handler{Command: "case", Cases: []api.Case{{When: less(st("left"), num(0)), Refuse: "x"}}},
		api.Handler{Command: "mute", Cases: []api.Case{{}}},
		api.Handler{Command: "long", Cases: []api.Case{{Refuse: strings.Repeat("\xff", 300)}}},
		api.Handler{Command: "self", Cases: []api.Case{{When: []api.Cond{{Kind: api.CSame, A: self(), B: txt("acc")}}, Refuse: "it is acc"}, {Emits: []api.Emit{emit("x", n)}}}},
		api.Handler{Command: "", Cases: []api.Case{{Refuse: "the empty one"}}},
		api.Handler{Command: "field", Cases: []api.Case{{Refuse: "the second one of a name"}}},
	)
	w := begun(t, 64, r)
	w.add("acc", "", opened(5))
	for name, want := range map[string]api.Done{
		"field": badly(api.ErrRulesField), "type": badly(api.ErrRulesType), "range": badly(api.ErrRulesRange), "form": badly(api.ErrRulesForm),
		"second": badly(api.ErrRulesField), "cond": badly(api.ErrRulesForm), "when": badly(api.ErrRulesType), "none": badly(api.ErrRulesNone),
		"take": badly(api.ErrRulesNeeds), "nocase": never("no case"), "case": never("no case"), "mute": never(""), "long": never(strings.Repeat("\xff", 300)),
		"self": never("it is acc"), "": never("the empty one"),
	} {
		t.Run(name, func(t *testing.T) {
			w.does(api.Command{Stream: "acc", Name: name, Expected: -1}, want, want)
			w.does(api.Command{Stream: "acc", Name: name, Expected: 1, Key: "k"}, want, want)
			w.does(api.Command{Stream: "acc", Name: name, Expected: 0}, conflict)
		})
	}
	w.does(api.Command{Stream: "box", Name: "self", Expected: -1}, badly(api.ErrRulesField))
	w.is("k")
}

// P16.2: the state is the fold of the stream's own events, brought up, whatever was kept of it.
func TestStates(t *testing.T) {
	w := acc(t, 128)
	w.l = []api.Upcast{{Type: "opened", From: 0, Changes: []api.Change{{Kind: api.UScale, Name: "n", F: api.Field{N: 10}}}}}
	w.add("box", "", opened(1))
	for i := range 6 {
		w.does(take(51-8*i), never("empty"))
		w.does(order("box", "take", "", 11), never("empty"))
		if i%2 == 1 {
			w.snap("acc")
			w.snap("box")
		}
		w.does(take(8), notYet, came(api.DDone, i+1, i+2, 1))
		if i == 3 {
			w.reopen()
		}
	}
	w.does(take(3), never("empty"))
	w.does(take(2), notYet, came(api.DDone, 7, 8, 1))
	w.does(order("box", "take", "", 10), notYet, came(api.DDone, 1, 9, 1))
	w.does(order("none", "take", "", 1), badly(api.ErrRulesField))
}

// P16.2: events have the Version that upcast.Latest tells of their own Type, and are not brought up any more.
func TestVersions(t *testing.T) {
	up := func(kind string, from int) api.Upcast {
		return api.Upcast{Type: kind, From: from, Changes: []api.Change{{Kind: api.UScale, Name: "n", F: api.Field{N: 10}}}}
	}
	n := as("n", gv("n"))
	r := with(chapter(), takes("all", api.Case{Emits: []api.Emit{emit("taken", n), emit("opened", n), emit("none", n), emit("gap", n), emit("taken", n), emit("late", n)}}))
	w := begun(t, 64, r, up("taken", 1), up("opened", 0), up("taken", 0), up("taken", 2), up("gap", 2), up("gap", 0), up("late", 1), up("late", -1), up("", 0))
	w.add("acc", "", opened(6)) // brought up to 60
	w.does(take(3), notYet, came(api.DDone, 1, 1, 1))
	w.does(take(58), never("empty"))
	w.does(order("acc", "all", "", 4), notYet, came(api.DDone, 2, 2, 6))
	l, _ := w.s.Stream("acc", 0, most)
	for i, x := range l {
		if want := []int{0, 3, 3, 1, 0, 1, 3, 0}[i]; x.Event.Version != want {
			t.Errorf("%+v, not version %d", x, want)
		}
	}
	// left is that of the last `opened`, without the 4 that were taken behind it.
	w.does(take(1), never("empty"))
	w.add("acc", "", opened(1))
	w.does(take(11), never("empty"))
	w.does(take(10), notYet, came(api.DDone, 9, 9, 1))

	// What counts is what was told when it was loaded.
	x := w.job(order("acc", "open", "", 2))
	w.steps(x, notYet)
	own := *w
	own.r, own.l = api.Rules{}, nil
	d, is := x.j.Step(own.s, own.r, own.l)
	if want, _ := w.m.step(x.p, w.r, w.l); d != want || !is {
		t.Errorf("%+v, %v, not %+v", d, is, want)
	}
	w.is()
}

// P16.2: how many events there are is not asked of all streams, but of the command's.
func TestVersionOfTheStream(t *testing.T) {
	w := acc(t, 64)
	w.add("box", "", opened(1), opened(2))
	for i := range 3 {
		w.does(expecting(take(1), i), conflict)
		w.does(expecting(take(1), i+1), notYet, came(api.DDone, i+1, i+3, 1))
	}
	w.does(expecting(order("box", "take", "", 1), 6), conflict)
	w.does(expecting(order("new", "open", "", 1), 6), conflict)
	w.does(expecting(order("new", "open", "", 1), 0), notYet, came(api.DDone, 0, 6, 1))
	if fmt.Sprint(w.s.Streams()) != "[acc box new]" {
		t.Errorf("%q", w.s.Streams())
	}
}
