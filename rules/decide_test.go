package rules

import (
	"fmt"
	"strings"
	"testing"

	"cartulary/api"
)

// example is the chapter's table.
func example() api.Rules {
	return api.Rules{
		Handlers: []api.Handler{{Command: "take", Needs: []api.Need{{Name: "n"}}, Cases: []api.Case{
			{When: []api.Cond{when(api.CLess, gv("n"), num(1))}, Refuse: "nothing"},
			{When: []api.Cond{when(api.CLess, st("left"), gv("n"))}, Refuse: "empty"},
			{Emits: []api.Emit{{Type: "taken", Sets: []api.Assign{as("n", gv("n"))}}}},
		}}},
		Evolves: []api.Evolve{{Type: "taken", Sets: []api.Assign{as("left", ex(api.ESub, st("left"), gv("n")))}}},
	}
}

// one is a table of one handler without Needs, of those cases.
func one(l ...api.Case) api.Rules {
	return api.Rules{Handlers: []api.Handler{{Command: "do", Cases: l}}}
}

// emitting is a case that makes one event.
func emitting(l ...api.Assign) api.Case {
	return api.Case{Emits: []api.Emit{{Type: "done", Sets: l}}}
}

// decides asks for what a command comes to; decidesNot for its error.
func decides(t *testing.T, r api.Rules, state []api.Field, command string, given []api.Field, want api.Decision) {
	t.Helper()
	if got, e := isDecide(t, r, "s", state, command, given); !alike(got, want) || e != api.OK {
		t.Errorf("Decide(%+v, %q, %+v): %+v, %v, not %+v", state, command, given, got, e, want)
	}
}

func decidesNot(t *testing.T, r api.Rules, state []api.Field, command string, given []api.Field, want api.Errno) {
	t.Helper()
	if got, e := isDecide(t, r, "s", state, command, given); !alike(got, api.Decision{}) || e != want {
		t.Errorf("Decide(%+v, %q, %+v): %+v, %v, not %v", state, command, given, got, e, want)
	}
}

func refused(why string) api.Decision { return api.Decision{Refused: true, Reason: why} }

// events is a decision of events of the type done.
func events(l ...[]api.Field) (d api.Decision) {
	for _, fields := range l {
		d.Events = append(d.Events, api.Event{Type: "done", Fields: fields})
	}
	return d
}

// The chapter's examples of Decide.
func TestDecideExamples(t *testing.T) {
	r, state := example(), []api.Field{number("left", 5)}
	isCheck(t, r, api.OK)
	n := func(n int) []api.Field { return []api.Field{number("n", n)} }
	decides(t, r, state, "take", n(2), api.Decision{Events: []api.Event{{Type: "taken", Fields: n(2)}}})
	decides(t, r, state, "take", n(9), refused("empty"))
	decides(t, r, state, "take", n(0), refused("nothing"))
	decidesNot(t, r, state, "take", nil, api.ErrRulesNeeds)
	decidesNot(t, r, state, "give", n(1), api.ErrRulesNone)
	decidesNot(t, r, nil, "take", n(2), api.ErrRulesField)
	decides(t, r, nil, "take", n(0), refused("nothing"))
}

// P13.4: the handler is the first one of that name, byte by byte; names that may not be are as good.
func TestDecideHandler(t *testing.T) {
	var r api.Rules
	for i, name := range []string{"a", "b", "a", "B", "", "b", "\xff"} {
		r.Handlers = append(r.Handlers, api.Handler{Command: name, Cases: []api.Case{{Refuse: fmt.Sprint(i)}}})
	}
	for name, want := range map[string]string{"a": "0", "b": "1", "B": "3", "": "4", "\xff": "6"} {
		decides(t, r, nil, name, nil, refused(want))
	}
	for _, name := range []string{"A", "c", "a ", "aa", "\x00", strings.Repeat("a", 100)} {
		decidesNot(t, r, nil, name, nil, api.ErrRulesNone)
		decidesNot(t, r, nil, name, record(3), api.ErrRulesNone)
	}
	decidesNot(t, api.Rules{}, nil, "", nil, api.ErrRulesNone)
	decidesNot(t, api.Rules{Evolves: []api.Evolve{{Type: "a"}}}, nil, "a", nil, api.ErrRulesNone)
	// A later handler of the name does not help, where the first one refuses.
	r.Handlers[0].Needs = []api.Need{{Name: "n"}}
	decidesNot(t, r, nil, "a", nil, api.ErrRulesNeeds)
}

// P13.4: the fields that a command must have: so many, each there, each of its kind.
func TestDecideNeeds(t *testing.T) {
	r := one(api.Case{Refuse: "why"})
	h := &r.Handlers[0]
	n, s, x := number("n", 1), words("s", "1"), number("x", 1)
	h.Needs = []api.Need{{Name: "n"}, {Name: "s", Text: true}}
	for _, given := range [][]api.Field{{n, s}, {s, n}, {number("n", most), words("s", strings.Repeat("x", 300))}, {{Name: "n", S: "x"}, {Name: "s", Text: true, N: 1}}} {
		decides(t, r, nil, "do", given, refused("why"))
	}
	for _, given := range [][]api.Field{nil, {}, {n}, {s}, {n, n}, {s, s}, {n, x}, {x, s}, {n, s, x}, {n, s, s}, {n, s, n}, {words("n", "1"), s}, {n, number("s", 1)}, {words("n", "1"), number("s", 1)}, {number("N", 1), s}, {{}, {}}} {
		decidesNot(t, r, nil, "do", given, api.ErrRulesNeeds)
	}
	h.Needs = nil
	decides(t, r, nil, "do", nil, refused("why"))
	decides(t, r, record(3), "do", []api.Field{}, refused("why"))
	decidesNot(t, r, nil, "do", []api.Field{x}, api.ErrRulesNeeds)
	decidesNot(t, r, nil, "do", []api.Field{{}}, api.ErrRulesNeeds)
	// Given is searched by sheet.Get: the first field of a name counts. Needs of one name are met by one field.
	h.Needs = []api.Need{{Name: "n"}, {Name: "n"}}
	decides(t, r, nil, "do", []api.Field{n, words("n", "x")}, refused("why"))
	decides(t, r, nil, "do", []api.Field{n, x}, refused("why"))
	decidesNot(t, r, nil, "do", []api.Field{words("n", "x"), n}, api.ErrRulesNeeds)
	decidesNot(t, r, nil, "do", []api.Field{n}, api.ErrRulesNeeds)
	h.Needs = []api.Need{{Name: "n"}, {Name: "n", Text: true}}
	decidesNot(t, r, nil, "do", []api.Field{n, words("n", "x")}, api.ErrRulesNeeds)
	h.Needs = []api.Need{{Name: ""}, {Name: "NO NAME", Text: true}}
	decides(t, r, nil, "do", []api.Field{words("NO NAME", ""), {}}, refused("why"))
	// Many of them.
	for _, k := range []int{15, 16, 17, 40} {
		h.Needs = manyNeeds(k)
		var given []api.Field
		for _, need := range h.Needs {
			given = append(given, api.Field{Name: need.Name, Text: need.Text})
		}
		decides(t, r, nil, "do", given, refused("why"))
		given[k-1].Text = !given[k-1].Text
		decidesNot(t, r, nil, "do", given, api.ErrRulesNeeds)
	}
	// What a command must have is asked ahead of its cases.
	h.Needs = []api.Need{{Name: "n"}}
	h.Cases = []api.Case{{When: []api.Cond{{}}, Refuse: "why"}}
	decidesNot(t, r, nil, "do", nil, api.ErrRulesNeeds)
	decidesNot(t, r, nil, "do", []api.Field{n}, api.ErrRulesForm)
}

// P13.4: the first case of which all conditions hold.
func TestDecideCases(t *testing.T) {
	is := func(name string, n int) api.Cond { return when(api.CSame, st(name), num(n)) }
	r := one(
		api.Case{When: []api.Cond{is("a", 1), is("b", 1)}, Refuse: "both"},
		api.Case{When: []api.Cond{is("a", 1)}, Refuse: "a"},
		api.Case{When: []api.Cond{not(is("a", 0)), is("b", 1)}, Refuse: "b"},
		emitting(as("x", st("b"))),
		api.Case{Refuse: "never"},
	)
	for want, ab := range map[string][2]int{"both": {1, 1}, "a": {1, 0}, "b": {2, 1}} {
		decides(t, r, []api.Field{number("a", ab[0]), number("b", ab[1])}, "do", nil, refused(want))
	}
	decides(t, r, []api.Field{number("a", 0), number("b", 1)}, "do", nil, events([]api.Field{number("x", 1)}))
	decides(t, r, []api.Field{number("a", 2), number("b", 2)}, "do", nil, events([]api.Field{number("x", 2)}))
	// Without a case, and where none holds.
	decides(t, one(), nil, "do", nil, refused("no case"))
	never := api.Case{When: []api.Cond{when(api.CSame, num(1), num(2))}, Refuse: "never"}
	decides(t, one(never), nil, "do", nil, refused("no case"))
	decides(t, one(never, never), nil, "do", nil, refused("no case"))
	decides(t, one(never, api.Case{When: []api.Cond{when(api.CSame, num(1), num(1)), when(api.CSame, num(1), num(2))}, Refuse: "never"}), nil, "do", nil, refused("no case"))
}

// P13.4: conditions are gone through up to the first one that does not hold, or that has an error, and no further; so are cases.
func TestDecideOrder(t *testing.T) {
	yes, no := when(api.CSame, num(1), num(1)), when(api.CSame, num(1), num(2))
	wrong := map[api.Errno]api.Cond{
		api.ErrRulesForm:  {},
		api.ErrRulesField: when(api.CSame, st("none"), num(1)),
		api.ErrRulesType:  when(api.CLess, num(1), txt("x")),
		api.ErrRulesRange: when(api.CLess, ex(api.EMul, num(most), num(2)), num(1)),
	}
	for e, bad := range wrong {
		for _, other := range wrong {
			decides(t, one(api.Case{When: []api.Cond{no, bad}, Refuse: "x"}, api.Case{Refuse: "next"}), nil, "do", nil, refused("next"))
			decides(t, one(api.Case{When: []api.Cond{yes, no, bad, other}, Refuse: "x"}, api.Case{Refuse: "next"}), nil, "do", nil, refused("next"))
			decides(t, one(api.Case{When: []api.Cond{yes}, Refuse: "x"}, api.Case{When: []api.Cond{bad}}), nil, "do", nil, refused("x"))
			decidesNot(t, one(api.Case{When: []api.Cond{bad, no}, Refuse: "x"}, api.Case{Refuse: "next"}), nil, "do", nil, e)
			decidesNot(t, one(api.Case{When: []api.Cond{yes, not(no), bad, other}, Refuse: "x"}, api.Case{Refuse: "next"}), nil, "do", nil, e)
			decidesNot(t, one(api.Case{When: []api.Cond{no, other}, Refuse: "x"}, api.Case{When: []api.Cond{not(bad)}, Refuse: "y"}), nil, "do", nil, e)
		}
	}
	// A condition may rely on the one ahead of it.
	r := one(api.Case{When: []api.Cond{{Kind: api.CHas, A: st("n")}, when(api.CLess, num(3), st("n"))}, Refuse: "great"}, api.Case{Refuse: "small"})
	decides(t, r, nil, "do", nil, refused("small"))
	decides(t, r, []api.Field{number("n", 3)}, "do", nil, refused("small"))
	decides(t, r, []api.Field{number("n", 4)}, "do", nil, refused("great"))
}

// P13.4: a case without Emits refuses, with its reason, whatever that is; one with Emits does not, whatever its Refuse.
func TestDecideRefuse(t *testing.T) {
	for _, why := range []string{"", "x", "\x00\xff", strings.Repeat("x", 300)} {
		decides(t, one(api.Case{Refuse: why}), nil, "do", nil, refused(why))
		decides(t, one(api.Case{Refuse: why, Emits: []api.Emit{}}), nil, "do", nil, refused(why))
		decides(t, one(api.Case{Refuse: why, Emits: []api.Emit{{Type: "done"}}}), nil, "do", nil, events(nil))
	}
}

// P13.4: events have their types, the version 0, and fields by rising names, of which the last Set of a name counts.
func TestDecideEvents(t *testing.T) {
	state := []api.Field{number("left", 5)}
	c := api.Case{Emits: []api.Emit{
		{Type: "b", Sets: []api.Assign{as("z", st("left")), as("a", txt("x")), as("m", ex(api.EAdd, st("left"), num(1)))}},
		{Type: "a"},
		{Type: "b", Sets: []api.Assign{as("a", num(1)), as("b", num(2)), as("a", self())}},
		{Type: "NO NAME", Sets: []api.Assign{as("", num(1)), as("\xff", num(2)), as("B", num(3))}},
	}}
	decides(t, one(c), state, "do", nil, api.Decision{Events: []api.Event{
		{Type: "b", Fields: []api.Field{words("a", "x"), number("m", 6), number("z", 5)}},
		{Type: "a"},
		{Type: "b", Fields: []api.Field{words("a", "s"), number("b", 2)}},
		{Type: "NO NAME", Fields: []api.Field{number("", 1), number("B", 3), number("\xff", 2)}},
	}})
	// What a Set gives a field is seen by no other.
	decides(t, one(emitting(as("left", num(1)), as("x", st("left")))), state, "do", nil, events([]api.Field{number("left", 1), number("x", 5)}))
	// As many as there are.
	for _, n := range []int{1, 16, 17, 40} {
		d, _ := isDecide(t, one(api.Case{Emits: manyEmits(n)}), "s", nil, "do", nil)
		f, _ := isDecide(t, one(emitting(manySets(n)...)), "s", nil, "do", nil)
		if len(d.Events) != n || len(f.Events[0].Fields) != n {
			t.Errorf("%d: %+v, %+v", n, d, f)
		}
	}
	// Fields that may not be come as they stand, but for the name.
	odd := []api.Field{{Name: "o", N: 3, S: "x"}}
	decides(t, one(emitting(as("p", st("o")))), odd, "do", nil, events([]api.Field{{Name: "p", N: 3, S: "x"}}))
}

// P13.4: the first error of a Set, in order; there are no events beside it.
func TestDecideSetErrors(t *testing.T) {
	wrong := map[api.Errno]api.Expr{
		api.ErrRulesForm:  {},
		api.ErrRulesField: gv("none"),
		api.ErrRulesType:  ex(api.ELen, num(1)),
		api.ErrRulesRange: ex(api.ESub, num(-bound), num(1)),
	}
	good := api.Emit{Type: "done", Sets: []api.Assign{as("a", num(1))}}
	for e, x := range wrong {
		for _, y := range wrong {
			bad, other := api.Emit{Type: "done", Sets: []api.Assign{as("a", x), as("b", num(1))}}, api.Emit{Type: "done", Sets: []api.Assign{as("a", y)}}
			decidesNot(t, one(emitting(as("a", num(1)), as("b", x), as("c", y))), nil, "do", nil, e)
			decidesNot(t, one(emitting(as("a", x), as("a", num(1)))), nil, "do", nil, e)
			decidesNot(t, one(api.Case{Emits: []api.Emit{good, bad, good, other}}, api.Case{Refuse: "next"}), nil, "do", nil, e)
			decidesNot(t, one(api.Case{Emits: []api.Emit{good, good, bad}}, api.Case{Emits: []api.Emit{good}}), nil, "do", nil, e)
		}
	}
}
