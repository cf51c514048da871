package rules

import (
	"strings"
	"testing"

	"cartulary/api"
)

// P13.3: values that are the same, less and at most, of integers and of texts.
func TestHolds(t *testing.T) {
	ints := []api.Expr{num(least), num(-bound - 1), num(-10), num(-9), num(-1), num(0), num(1), num(2), num(9), num(10), num(bound + 1), num(most)}
	texts := []api.Expr{txt(""), txt("\x00"), txt("-1"), txt("1"), txt("10"), txt("9"), txt("A"), txt("a"), txt("a\x00"), txt("aa"), txt("b"), txt("é"), txt("\xff"), txt("\xff" + strings.Repeat("x", 300))}
	for _, l := range [][]api.Expr{ints, texts} {
		for i, a := range l {
			for j, b := range l {
				holds(t, when(api.CSame, a, b), nil, nil, i == j)
				holds(t, when(api.CLess, a, b), nil, nil, i < j)
				holds(t, when(api.CMost, a, b), nil, nil, i <= j)
			}
		}
	}
	for _, a := range ints {
		for _, b := range texts {
			for _, c := range []api.Cond{when(0, a, b), when(0, b, a)} {
				c.Kind = api.CSame
				holds(t, c, nil, nil, false)
				c.Kind = api.CLess
				holdsNot(t, c, nil, nil, api.ErrRulesType)
				c.Kind = api.CMost
				holdsNot(t, c, nil, nil, api.ErrRulesType)
			}
		}
	}
}

// P13.3: of expressions' values, with the state, the given fields and the stream's name.
func TestHoldsValues(t *testing.T) {
	state, given := []api.Field{number("n", 5), words("s", "s")}, []api.Field{number("n", 6), words("s", "t")}
	holds(t, when(api.CLess, st("n"), gv("n")), state, given, true)
	holds(t, when(api.CLess, gv("n"), st("n")), state, given, false)
	holds(t, when(api.CSame, ex(api.EAdd, st("n"), num(1)), gv("n")), state, given, true)
	holds(t, when(api.CSame, self(), st("s")), state, given, true)
	holds(t, when(api.CSame, self(), gv("s")), state, given, false)
	holds(t, when(api.CMost, self(), gv("s")), state, given, true)
	holds(t, when(api.CSame, ex(api.EShow, st("n")), txt("5")), state, given, true)
	holds(t, when(api.CSame, st("n"), txt("5")), state, given, false)
}

// P13.3: two values are the same, if all of them is: of fields that may not be too, as they stand. Less is what their kind tells.
func TestHoldsOddFields(t *testing.T) {
	odd := []api.Field{{Name: "a", N: 1, S: "x"}, {Name: "b", N: 1, S: "y"}, {Name: "c", N: 1, S: "x"}, {Name: "d", Text: true, N: 1, S: "x"}, {Name: "e", Text: true, N: 2, S: "x"}, {Name: "f", Text: true, N: 1, S: "x"}, {Name: "a", N: 7}}
	for _, c := range []struct {
		a, b string
		want bool
	}{{"a", "a", true}, {"a", "c", true}, {"a", "b", false}, {"d", "f", true}, {"d", "e", false}, {"a", "d", false}} {
		holds(t, when(api.CSame, st(c.a), st(c.b)), odd, nil, c.want)
		holds(t, when(api.CSame, st(c.b), gv(c.a)), odd, odd, c.want)
	}
	holds(t, when(api.CSame, st("a"), num(1)), odd, nil, false)
	holds(t, when(api.CSame, txt("x"), st("d")), odd, nil, false)
	for _, c := range [][2]string{{"a", "b"}, {"b", "a"}, {"d", "e"}, {"e", "d"}} {
		holds(t, when(api.CLess, st(c[0]), st(c[1])), odd, nil, false)
		holds(t, when(api.CMost, st(c[0]), st(c[1])), odd, nil, true)
	}
	holdsNot(t, when(api.CLess, st("a"), st("d")), odd, nil, api.ErrRulesType)
}

// P13.3: whether there is a field, whatever it is, and whatever B is.
func TestHoldsHas(t *testing.T) {
	state, given := []api.Field{number("s", 0), words("both", "")}, []api.Field{words("both", ""), {Name: "NO NAME"}, {}}
	others := []api.Expr{{}, num(1), st("none"), gv("both"), {Kind: -1}, deep(65), wide(api.EAdd, 1000), ex(api.EAdd, self(), num(1))}
	for _, b := range others {
		has := func(a api.Expr) api.Cond { return when(api.CHas, a, b) }
		for _, name := range []string{"s", "both"} {
			holds(t, has(st(name)), state, given, true)
		}
		for _, name := range []string{"both", "NO NAME", ""} {
			holds(t, has(gv(name)), state, given, true)
		}
		for _, a := range []api.Expr{gv("s"), st("NO NAME"), st(""), st("S"), st("none"), gv("none")} {
			holds(t, has(a), state, given, false)
			holds(t, has(a), nil, nil, false)
		}
		for _, a := range []api.Expr{num(1), txt("s"), self(), {S: "s"}, {Kind: -1, S: "s"}, {Kind: 12, S: "s"}, ex(api.EShow, st("s")), named(ex(api.EAdd, st("s"), st("s")))} {
			holdsNot(t, has(a), state, given, api.ErrRulesForm)
		}
		// Of A no more is looked at than its kind and the name.
		holds(t, has(api.Expr{Kind: api.EState, N: 7, S: "s", Args: []api.Expr{{}}}), state, given, true)
		holds(t, has(api.Expr{Kind: api.EGiven, S: "s", Args: wide(0, 100).Args}), state, given, false)
	}
}

// P13.3: of several errors: the condition's kind, A, B, the kinds of both.
func TestHoldsFirst(t *testing.T) {
	wrong := map[api.Errno][]api.Expr{
		api.ErrRulesForm:  {{}, ex(api.EAdd, num(1)), deep(65)},
		api.ErrRulesField: {st("none"), ex(api.ELen, gv("none"))},
		api.ErrRulesType:  {ex(api.ELen, num(1))},
		api.ErrRulesRange: {ex(api.EAdd, num(bound), num(1)), ex(api.EJoin, txt(strings.Repeat("x", 200)), txt("y"))},
	}
	right := []api.Expr{num(1), txt("x")}
	for _, kind := range []int{api.CSame, api.CLess, api.CMost} {
		for e, l := range wrong {
			for _, x := range l {
				for _, y := range right {
					holdsNot(t, when(kind, x, y), nil, nil, e)
					holdsNot(t, when(kind, y, x), nil, nil, e)
				}
				for _, others := range wrong {
					for _, y := range others {
						holdsNot(t, when(kind, x, y), nil, nil, e)
					}
				}
			}
		}
	}
	for _, kind := range []int{0, -1, 5, 6, most, least, 1<<32 + 1, 257} {
		for _, x := range []api.Expr{num(1), txt("x"), st("none"), {}, ex(api.ELen, num(1))} {
			holdsNot(t, when(kind, x, num(1)), nil, nil, api.ErrRulesForm)
			holdsNot(t, when(kind, st("none"), x), nil, nil, api.ErrRulesForm)
		}
	}
}
