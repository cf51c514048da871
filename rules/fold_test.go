package rules

import (
	"strings"
	"testing"

	"cartulary/api"
)

// done is an event of the type done.
func done(fields ...api.Field) api.Event { return api.Event{Type: "done", Fields: fields} }

// evolve is a table of one Evolve, of the type done.
func evolve(drops []string, sets ...api.Assign) api.Rules {
	return api.Rules{Evolves: []api.Evolve{{Type: "done", Sets: sets, Drops: drops}}}
}

// folds asks for a state behind an event.
func folds(t *testing.T, r api.Rules, state []api.Field, e api.Event, want ...api.Field) {
	t.Helper()
	if got := isFold(t, r, "s", state, e); !alike(got, want) {
		t.Errorf("Fold(%+v, %+v): %+v, not %+v", state, e, got, want)
	}
}

// The chapter's examples of Fold.
func TestFoldExamples(t *testing.T) {
	state := []api.Field{number("left", 5)}
	folds(t, example(), state, api.Event{Type: "taken", Fields: []api.Field{number("n", 2)}}, number("left", 3))
	folds(t, example(), state, api.Event{Type: "taken"}, number("left", 5))
}

// P13.5: the Evolve is the first one of the event's Type; without one the state stays. The version does not count.
func TestFoldType(t *testing.T) {
	var r api.Rules
	for i, name := range []string{"a", "b", "a", "", "B"} {
		r.Evolves = append(r.Evolves, api.Evolve{Type: name, Sets: []api.Assign{as("x", num(i))}})
	}
	for name, want := range map[string]int{"a": 0, "b": 1, "": 3, "B": 4} {
		for _, version := range []int{0, 1, -1, most} {
			folds(t, r, nil, api.Event{Type: name, Version: version}, number("x", want))
		}
	}
	for _, name := range []string{"A", "c", "a ", "\xff"} {
		for _, state := range [][]api.Field{nil, {}, record(1), record(16), record(20), {{}, {}, {Name: "b", N: 1, S: "x"}, {Name: "a"}}} {
			folds(t, r, state, api.Event{Type: name}, state...)
			folds(t, api.Rules{}, state, api.Event{Type: name}, state...)
			folds(t, evolve(nil), state, done(), state...)
		}
	}
	folds(t, api.Rules{Handlers: []api.Handler{{Command: "a"}}}, record(2), api.Event{Type: "a"}, record(2)...)
}

// P13.5: Sets put fields in their places, with the state, the event's fields and the stream's name.
func TestFoldSets(t *testing.T) {
	state := []api.Field{number("b", 2), words("d", "x")}
	event := done(number("n", 7), words("b", "given"))
	folds(t, evolve(nil, as("a", num(1))), state, event, number("a", 1), number("b", 2), words("d", "x"))
	folds(t, evolve(nil, as("c", gv("n")), as("e", self())), state, event, number("b", 2), number("c", 7), words("d", "x"), words("e", "s"))
	folds(t, evolve(nil, as("b", gv("b")), as("d", st("b"))), state, event, words("b", "given"), number("d", 2))
	folds(t, evolve(nil, as("a", num(1)), as("a", num(2))), nil, event, number("a", 2))
	folds(t, evolve(nil, as("", num(1)), as("\xff", num(2)), as("B", num(3))), nil, event, number("", 1), number("B", 3), number("\xff", 2))
	// Fields that may not be come as they stand, but for the name; nothing is checked.
	folds(t, evolve(nil, as("x", gv("o"))), nil, done(api.Field{Name: "o", N: 3, S: "y"}), api.Field{Name: "x", N: 3, S: "y"})
	long := strings.Repeat("x", 300)
	folds(t, evolve(nil, as("x", gv("o"))), nil, done(words("o", long)), words("x", long))
}

// P13.5: values are those of the state as it was handed in, whatever the Sets ahead have put.
func TestFoldSees(t *testing.T) {
	state := []api.Field{number("a", 1), number("b", 2)}
	folds(t, evolve(nil, as("a", st("b")), as("b", st("a"))), state, done(), number("a", 2), number("b", 1))
	folds(t, evolve(nil, as("a", ex(api.EAdd, st("a"), num(1))), as("a", ex(api.EAdd, st("a"), num(10)))), state, done(), number("a", 11), number("b", 2))
	// What a Set ahead has put is no field of the state.
	folds(t, evolve(nil, as("c", num(3)), as("d", st("c"))), state, done(), number("a", 1), number("b", 2), number("c", 3))
	// Nor is what is to be dropped gone.
	folds(t, evolve([]string{"a"}, as("c", st("a"))), state, done(), number("b", 2), number("c", 1))
}

// P13.5: a Set whose value has an error leaves all as it is; those behind it go on, and so do the Drops.
func TestFoldErrors(t *testing.T) {
	state := []api.Field{number("a", 1), number("b", 2)}
	for _, bad := range []api.Expr{{}, st("none"), gv("a"), ex(api.ELen, num(1)), ex(api.EMul, num(most), num(2)), deep(65)} {
		folds(t, evolve(nil, as("a", bad)), state, done(), state...)
		folds(t, evolve(nil, as("c", bad)), state, done(), state...)
		folds(t, evolve([]string{"b"}, as("a", num(3)), as("a", bad), as("c", num(4))), state, done(), number("a", 3), number("c", 4))
		folds(t, evolve([]string{"a"}, as("a", bad), as("b", bad)), state, done(), number("b", 2))
	}
}

// P13.5: a Set that makes one field too many leaves all as it is; one in the place of another does not.
func TestFoldMany(t *testing.T) {
	zero := func(n int) []api.Field {
		l := record(n)
		l[0].N = 99
		return l
	}
	for _, n := range []int{1, 14, 15, 16} {
		want := zero(n)
		for i, name := range []string{"g0", "g1", "g2"} {
			if n+i < 16 {
				want = append(want, number(name, i))
			}
		}
		folds(t, evolve(nil, as("g0", num(0)), as("g1", num(1)), as("f00", num(99)), as("g2", num(2))), record(n), done(), want...)
	}
	// A Drop makes room for no Set: it comes behind.
	folds(t, evolve([]string{"f00"}, as("z", num(1))), record(16), done(), record(16)[1:]...)
	folds(t, evolve([]string{"f00"}, as("z", num(1))), record(15), done(), append(record(15)[1:], number("z", 1))...)
	// Where there are too many already, nothing is set, not in the place of another either; Drops go on.
	for _, n := range []int{17, 18, 40} {
		folds(t, evolve([]string{"f00", "f01"}, as("f02", num(99)), as("z", num(1))), record(n), done(), record(n)[2:]...)
	}
	// Of sixteen from nothing on, the seventeenth is one too many; a name that is there is not.
	full := manySets(17)
	got := isFold(t, evolve(nil, append(full, as("set0", num(77)))...), "s", nil, done())
	if f, _ := plainGet(got, "set0"); len(got) != 16 || f.N != 77 {
		t.Errorf("%+v", got)
	}
	if _, there := plainGet(got, "set16"); there {
		t.Errorf("%+v", got)
	}
}

// P13.5: Drops take the first field of their names away, in order, behind all Sets.
func TestFoldDrops(t *testing.T) {
	state := []api.Field{number("a", 1), number("b", 2), number("c", 3)}
	folds(t, evolve([]string{"b"}), state, done(), number("a", 1), number("c", 3))
	folds(t, evolve([]string{"c", "a", "none", "c"}), state, done(), number("b", 2))
	folds(t, evolve([]string{"d"}, as("d", num(4))), state, done(), state...)
	folds(t, evolve([]string{"a"}, as("a", num(4))), state, done(), state[1:]...)
	folds(t, evolve([]string{"a", "b", "c"}), state, done())
	folds(t, evolve([]string{"a"}), nil, done())
	// Lists that are no records: of names that are there twice the first one.
	odd := []api.Field{number("b", 1), number("a", 2), number("b", 3), number("", 4), number("b", 5)}
	folds(t, evolve([]string{"b"}), odd, done(), odd[1:]...)
	folds(t, evolve([]string{"b", "", "b"}), odd, done(), number("a", 2), number("b", 5))
	folds(t, evolve(nil, as("b", num(9)), as("aa", num(8))), odd, done(), number("aa", 8), number("b", 9), number("a", 2), number("b", 3), number("", 4), number("b", 5))
	// Also more of both than a table may have.
	got := isFold(t, evolve(manyDrops(20), manySets(12)...), "s", []api.Field{number("drop", 1), number("drop", 2)}, done())
	if len(got) != 12 {
		t.Errorf("%+v", got)
	}
}
