package rules

import (
	"math/big"
	"strconv"
	"strings"
	"testing"

	"cartulary/api"
)

// int0 and text0 are values.
func int0(n int) api.Field { return number("", n) }

func text0(s string) api.Field { return words("", s) }

// P13.2: each kind of an expression.
func TestEvalKinds(t *testing.T) {
	state := []api.Field{number("left", 5), words("name", "st")}
	given := []api.Field{number("left", 6), number("n", -7), words("name", "gv")}
	for _, c := range []struct {
		e    api.Expr
		want api.Field
	}{
		{num(0), int0(0)},
		{num(-3), int0(-3)},
		{txt(""), text0("")},
		{txt("a\x00é\xff"), text0("a\x00é\xff")},
		{st("left"), int0(5)},
		{st("name"), text0("st")},
		{gv("left"), int0(6)},
		{gv("n"), int0(-7)},
		{gv("name"), text0("gv")},
		{self(), text0("xyz")},
		{ex(api.EAdd, num(2), num(3)), int0(5)},
		{ex(api.ESub, num(2), num(3)), int0(-1)},
		{ex(api.EMul, num(-2), num(3)), int0(-6)},
		{ex(api.EMul, num(-2), num(-3)), int0(6)},
		{ex(api.EJoin, txt("ab"), txt("c")), text0("abc")},
		{ex(api.EJoin, txt(""), txt("")), text0("")},
		{ex(api.ELen, txt("aé\x00")), int0(4)},
		{ex(api.ELen, txt("")), int0(0)},
		{ex(api.EShow, num(0)), text0("0")},
		{ex(api.EShow, num(-120)), text0("-120")},
		{ex(api.ESub, st("left"), gv("n")), int0(12)},
		{ex(api.EJoin, ex(api.EJoin, st("name"), self()), gv("name")), text0("stxyzgv")},
	} {
		evals(t, c.e, "xyz", state, given, c.want)
	}
	// What an expression's kind does not ask for is not looked at.
	evals(t, api.Expr{Kind: api.EInt, N: 4, S: "x"}, "xyz", nil, nil, int0(4))
	evals(t, api.Expr{Kind: api.EText, N: 4, S: "x"}, "xyz", nil, nil, text0("x"))
	evals(t, api.Expr{Kind: api.ESelf, N: 4, S: "x"}, "xyz", nil, nil, text0("xyz"))
	evals(t, api.Expr{Kind: api.EState, N: 4, S: "left"}, "xyz", state, nil, int0(5))
	evals(t, api.Expr{Kind: api.ELen, N: 4, S: "x", Args: []api.Expr{self()}}, "xyz", nil, nil, int0(3))
	evals(t, api.Expr{Kind: api.EInt, N: 4, Args: []api.Expr{}}, "xyz", nil, nil, int0(4))
	// EInt, EText, ESelf and fields are taken as they are, however great; names that may not be too.
	long := strings.Repeat("x", 500)
	odd := []api.Field{{Name: "", N: 1}, {Name: "NO NAME", Text: true, S: long}, number("big", most)}
	evals(t, num(most), "", nil, nil, int0(most))
	evals(t, num(least), "", nil, nil, int0(least))
	evals(t, txt(long), "", nil, nil, text0(long))
	evals(t, self(), long, nil, nil, text0(long))
	evals(t, self(), "", nil, nil, text0(""))
	evals(t, st(""), "", odd, nil, int0(1))
	evals(t, gv("NO NAME"), "", nil, odd, text0(long))
	evals(t, st("big"), "", odd, nil, int0(most))
	evals(t, ex(api.ELen, gv("NO NAME")), "", nil, odd, int0(500))
	evals(t, ex(api.ELen, self()), long, nil, nil, int0(500))
	evals(t, ex(api.EShow, num(least)), "", nil, nil, text0("-9223372036854775808"))
	evals(t, ex(api.EShow, st("big")), "", odd, nil, text0("9223372036854775807"))
}

// P13.2: fields that may not be are taken as they stand, but for their names; of names that are there twice the first one.
func TestEvalOddFields(t *testing.T) {
	odd := []api.Field{{Name: "b", N: 3, S: "x"}, {Name: "a", Text: true, N: 4, S: "y"}, {Name: "b", N: 5}, {Name: "a", N: 6}}
	evals(t, st("b"), "", odd, nil, api.Field{N: 3, S: "x"})
	evals(t, gv("a"), "", nil, odd, api.Field{Text: true, N: 4, S: "y"})
	// Put together they are integers and texts of their kind, and nothing else.
	evals(t, ex(api.EAdd, st("b"), num(1)), "", odd, nil, int0(4))
	evals(t, ex(api.EShow, st("b")), "", odd, nil, text0("3"))
	evals(t, ex(api.EJoin, st("a"), st("a")), "", odd, nil, text0("yy"))
	evals(t, ex(api.ELen, st("a")), "", odd, nil, int0(1))
	refuses(t, ex(api.EAdd, st("a"), num(1)), odd, nil, api.ErrRulesType)
	refuses(t, ex(api.ELen, st("b")), odd, nil, api.ErrRulesType)
}

// P13.2: there is no such field.
func TestEvalField(t *testing.T) {
	state, given := []api.Field{number("s", 1)}, []api.Field{number("g", 1)}
	for _, e := range []api.Expr{st("g"), gv("s"), st(""), gv(""), st("S"), st("ss"), gv("NO NAME"), ex(api.ELen, st("g")), ex(api.EAdd, num(1), gv("s"))} {
		refuses(t, e, state, given, api.ErrRulesField)
		refuses(t, e, nil, nil, api.ErrRulesField)
	}
	evals(t, st("s"), "", state, nil, int0(1))
	evals(t, gv("g"), "", nil, given, int0(1))
}

// P13.2: each kind of an expression, with each number of Args: alone, and deep within.
func TestEvalForm(t *testing.T) {
	some := []api.Field{number("x", 1)}
	for kind := -2; kind <= 14; kind++ {
		for n := range 4 {
			e := withArgs(kind, n)
			for _, whole := range []api.Expr{e, ex(api.EShow, e), ex(api.EAdd, e, num(1)), ex(api.EAdd, num(1), e), ex(api.EJoin, ex(api.EShow, ex(api.EAdd, num(1), e)), self())} {
				_, got := isEval(t, whole, "s", some, some)
				if right := kind >= 1 && kind <= 11 && plainArgs[kind] == n; (got == api.ErrRulesForm) == right {
					t.Errorf("%+v: %v", whole, got)
				}
			}
		}
	}
	for _, kind := range []int{most, least, 1 << 32, 1<<32 + 1, 256 + 1} {
		refuses(t, api.Expr{Kind: kind}, nil, nil, api.ErrRulesForm)
	}
}

// P13.2: expressions of so many nodes.
func TestEvalNodes(t *testing.T) {
	for _, n := range []int{1, 2, 3, 31, 62, 63, 64, 65, 66, 67, 128, 320, 1000} {
		for i, e := range []api.Expr{deep(n), broad(n), leaning(n, true), leaning(n, false)} {
			if i > 1 && n%2 == 0 {
				continue
			}
			if plainCount(e) != n {
				t.Fatalf("%d has %d nodes", n, plainCount(e))
			}
			if _, got := isEval(t, e, "", nil, nil); (got == api.ErrRulesForm) != (n > 64) {
				t.Errorf("%d nodes: %v", n, got)
			}
		}
		refuses(t, wide(api.EAdd, max(n, 4)), nil, nil, api.ErrRulesForm)
	}
	evals(t, deep(63), "", nil, nil, int0(1))
	evals(t, deep(64), "", nil, nil, text0("1"))
	evals(t, broad(63), "", nil, nil, int0(32))
	evals(t, broad(64), "", nil, nil, text0("32"))
	evals(t, leaning(63, true), "", nil, nil, int0(32))
	evals(t, ex(api.EShow, leaning(63, false)), "", nil, nil, text0("32"))
}

// edges are integers at which something changes.
func edges() []int {
	l := []int{0, 1, 2, 3, 10, 31622776, 31622777, 1 << 31, 1 << 32, 3037000500, 4294967296, bound / 2, bound/2 + 1, bound / 3, bound - 1, bound, bound + 1, 2 * bound, most / 2, most/2 + 1, most - bound, most - 1, most}
	for _, n := range l {
		l = append(l, -n, -n-1)
	}
	return l
}

// P13.2: sums, differences and products of all edges, as integers without bounds.
func TestEvalSums(t *testing.T) {
	told := map[api.Errno]int{}
	for _, a := range edges() {
		for _, b := range edges() {
			for _, kind := range []int{api.EAdd, api.ESub, api.EMul} {
				_, e := isEval(t, ex(kind, num(a), num(b)), "", nil, nil)
				told[e]++
			}
		}
	}
	if told[api.OK] < 1000 || told[api.ErrRulesRange] < 1000 || len(told) != 2 {
		t.Errorf("%v", told)
	}
}

// P13.2: results at the bounds, one beyond each, and beyond an int.
func TestEvalRange(t *testing.T) {
	for _, c := range []struct {
		kind, a, b int
		want       string
	}{
		{api.EAdd, bound - 1, 1, "1000000000000000"},
		{api.EAdd, bound, 1, ""},
		{api.EAdd, bound + 1, -1, "1000000000000000"},
		{api.EAdd, 1 - bound, -1, "-1000000000000000"},
		{api.EAdd, -bound, -1, ""},
		{api.EAdd, bound + 1, 0, ""},
		{api.EAdd, most, 1, ""},
		{api.EAdd, most, most, ""},
		{api.EAdd, least, least, ""},
		{api.EAdd, least, -1, ""},
		{api.EAdd, most, least, "-1"},
		{api.EAdd, most, -most, "0"},
		{api.EAdd, least, most - bound, ""},
		{api.EAdd, least, most - bound + 1, "-1000000000000000"},
		{api.ESub, bound, 0, "1000000000000000"},
		{api.ESub, bound, -1, ""},
		{api.ESub, -bound, 0, "-1000000000000000"},
		{api.ESub, -bound, 1, ""},
		{api.ESub, 0, bound, "-1000000000000000"},
		{api.ESub, 0, least, ""},
		{api.ESub, -1, least, ""},
		{api.ESub, least, least, "0"},
		{api.ESub, most, most, "0"},
		{api.ESub, most, least, ""},
		{api.ESub, least, most, ""},
		{api.ESub, least, 1, ""},
		{api.ESub, most, -1, ""},
		{api.EMul, bound / 10, 10, "1000000000000000"},
		{api.EMul, bound / 10, 11, ""},
		{api.EMul, bound / 10, -10, "-1000000000000000"},
		{api.EMul, -bound / 10, -10, "1000000000000000"},
		{api.EMul, bound, 1, "1000000000000000"},
		{api.EMul, -1, bound, "-1000000000000000"},
		{api.EMul, 7, 142857142857142, "999999999999994"},
		{api.EMul, 7, 142857142857143, ""}, // one beyond
		{api.EMul, -142857142857143, 7, ""},
		{api.EMul, 9091, -109998900011, ""},
		{api.EMul, bound + 1, 1, ""},
		{api.EMul, bound + 1, -1, ""},
		{api.EMul, 31622776, 31622776, "999999961946176"},
		{api.EMul, 31622777, 31622777, ""},
		{api.EMul, 1 << 32, 1 << 32, ""},
		{api.EMul, 1 << 62, 4, ""},
		{api.EMul, least, -1, ""},
		{api.EMul, -1, least, ""},
		{api.EMul, least, least, ""},
		{api.EMul, least, 0, "0"},
		{api.EMul, 0, most, "0"},
		{api.EMul, least, 1, ""},
		{api.EMul, most, most, ""},
	} {
		e := ex(c.kind, num(c.a), num(c.b))
		if c.want == "" {
			refuses(t, e, nil, nil, api.ErrRulesRange)
			continue
		}
		n, _ := strconv.Atoi(c.want)
		evals(t, e, "", nil, nil, int0(n))
		evals(t, ex(api.EShow, e), "", nil, nil, text0(c.want))
		// Fields beyond the bounds do as well.
		evals(t, ex(c.kind, st("a"), gv("b")), "", []api.Field{number("a", c.a)}, []api.Field{number("b", c.b)}, int0(n))
	}
}

// P13.2: the bounds hold of each result within, not of the last one alone.
func TestEvalRangeWithin(t *testing.T) {
	over := ex(api.EAdd, num(bound), num(1))
	refuses(t, ex(api.ESub, over, num(1)), nil, nil, api.ErrRulesRange)
	refuses(t, ex(api.EMul, num(0), over), nil, nil, api.ErrRulesRange)
	refuses(t, ex(api.ELen, ex(api.EShow, over)), nil, nil, api.ErrRulesRange)
	evals(t, ex(api.EMul, num(0), num(bound+1)), "", nil, nil, int0(0))
	long := ex(api.EJoin, txt(strings.Repeat("x", 200)), txt("y"))
	refuses(t, ex(api.ELen, long), nil, nil, api.ErrRulesRange)
}

// P13.2: each divisor of the bound, and its neighbours.
func TestEvalProducts(t *testing.T) {
	for two := range 16 {
		for five := range 16 {
			d := new(big.Int).Mul(new(big.Int).Exp(big.NewInt(2), big.NewInt(int64(two)), nil), new(big.Int).Exp(big.NewInt(5), big.NewInt(int64(five)), nil))
			a := int(d.Int64())
			for _, b := range []int{bound/a - 1, bound / a, bound/a + 1} {
				for _, signs := range [][2]int{{1, 1}, {1, -1}, {-1, 1}, {-1, -1}} {
					isEval(t, ex(api.EMul, num(a*signs[0]), num(b*signs[1])), "", nil, nil)
				}
			}
		}
	}
}

// P13.2: texts that are made have at most 200 bytes.
func TestEvalJoin(t *testing.T) {
	for _, n := range []int{0, 1, 100, 199, 200, 201, 202, 456, 1000} {
		for _, cut := range []int{0, 1, n / 2, n - 1, n} {
			if cut < 0 || cut > n {
				continue
			}
			a, b := strings.Repeat("a", cut), strings.Repeat("\xff", n-cut)
			state := []api.Field{words("a", a), words("b", b)}
			for _, e := range []api.Expr{ex(api.EJoin, txt(a), txt(b)), ex(api.EJoin, st("a"), txt(b)), ex(api.EJoin, txt(a), st("b"))} {
				if n > 200 {
					refuses(t, e, state, nil, api.ErrRulesRange)
				} else {
					evals(t, e, "", state, nil, text0(a+b))
				}
			}
		}
		s := strings.Repeat("s", n)
		if _, e := isEval(t, ex(api.EJoin, self(), txt("")), s, nil, nil); (e == api.ErrRulesRange) != (n > 200) {
			t.Errorf("%d: %v", n, e)
		}
	}
}

// P13.2: values of the wrong kind.
func TestEvalType(t *testing.T) {
	state := []api.Field{number("n", 1), words("s", "x"), words("digits", "12")}
	for _, n := range []api.Expr{num(1), st("n"), ex(api.ELen, self()), ex(api.EAdd, num(1), num(1))} {
		for _, s := range []api.Expr{txt("1"), txt(""), st("s"), st("digits"), self(), ex(api.EShow, num(1)), ex(api.EJoin, self(), self())} {
			for _, kind := range []int{api.EAdd, api.ESub, api.EMul} {
				refuses(t, ex(kind, n, s), state, nil, api.ErrRulesType)
				refuses(t, ex(kind, s, n), state, nil, api.ErrRulesType)
				refuses(t, ex(kind, s, s), state, nil, api.ErrRulesType)
			}
			refuses(t, ex(api.EJoin, n, s), state, nil, api.ErrRulesType)
			refuses(t, ex(api.EJoin, s, n), state, nil, api.ErrRulesType)
			refuses(t, ex(api.EShow, s), state, nil, api.ErrRulesType)
		}
		refuses(t, ex(api.EJoin, n, n), state, nil, api.ErrRulesType)
		refuses(t, ex(api.ELen, n), state, nil, api.ErrRulesType)
	}
}

// P13.2: of several errors the form is told ahead of all; then the first part that is wrong, from the left, Args ahead of what they are Args of.
func TestEvalFirst(t *testing.T) {
	wrong := map[api.Errno][]api.Expr{
		api.ErrRulesForm:  {{}, {Kind: 12}, ex(api.EAdd, num(1)), ex(api.EInt, num(1)), ex(api.ELen)},
		api.ErrRulesField: {st("none"), gv("none"), ex(api.ELen, gv("none")), ex(api.EAdd, st("none"), num(1))},
		api.ErrRulesType:  {ex(api.ELen, num(1)), ex(api.EShow, self()), ex(api.EAdd, num(1), self()), ex(api.EJoin, num(1), self())},
		api.ErrRulesRange: {ex(api.EAdd, num(bound), num(1)), ex(api.EMul, num(most), num(2)), ex(api.EJoin, txt(strings.Repeat("x", 200)), self())},
	}
	for a, first := range wrong {
		for _, x := range first {
			refuses(t, x, nil, nil, a)
			for _, kind := range []int{api.ELen, api.EShow} {
				refuses(t, ex(kind, x), nil, nil, a)
			}
			for b, second := range wrong {
				want := a
				if b == api.ErrRulesForm {
					want = b
				}
				for _, y := range second {
					for _, kind := range []int{api.EAdd, api.ESub, api.EMul, api.EJoin} {
						refuses(t, ex(kind, x, y), nil, nil, want)
						refuses(t, ex(kind, ex(api.ELen, x), y), nil, nil, want)
						refuses(t, ex(kind, x, ex(api.EShow, y)), nil, nil, want)
						// What is ahead and right, but of the wrong kind for what it is an Arg of, is told behind its other Arg.
						refuses(t, ex(kind, num(1), ex(kind, x, y)), nil, nil, want)
						refuses(t, ex(kind, txt("t"), ex(kind, x, y)), nil, nil, want)
					}
				}
			}
		}
	}
	// The kinds ahead of the result.
	refuses(t, ex(api.EJoin, txt(strings.Repeat("x", 201)), num(1)), nil, nil, api.ErrRulesType)
	refuses(t, ex(api.EJoin, num(1), txt(strings.Repeat("x", 201))), nil, nil, api.ErrRulesType)
	refuses(t, ex(api.EAdd, num(most), txt("")), nil, nil, api.ErrRulesType)
	// The number of nodes ahead of what is wrong in them.
	refuses(t, ex(api.EAdd, st("none"), leaning(63, true)), nil, nil, api.ErrRulesForm)
	refuses(t, ex(api.EAdd, st("none"), leaning(61, true)), nil, nil, api.ErrRulesField)
}

// R1: an expression that is a part of itself, or whose parts are shared so that their number has no end, is too great.
func TestEndless(t *testing.T) {
	loop := make([]api.Expr, 1)
	loop[0] = ex(api.EShow, loop...)
	pair := make([]api.Expr, 2)
	pair[0], pair[1] = num(1), ex(api.EAdd, pair...)
	shared := num(1)
	for range 1000 {
		shared = ex(api.EAdd, shared, shared)
	}
	nested := num(1)
	for range 1 << 16 {
		nested = ex(api.EShow, nested)
	}
	for _, e := range []api.Expr{loop[0], pair[1], shared, nested, wide(api.EAdd, 1<<20)} {
		if v, wrong := Eval(e, "s", nil, nil); v != (api.Field{}) || wrong != api.ErrRulesForm {
			t.Errorf("Eval: %+v, %v", v, wrong)
		}
		for _, c := range []api.Cond{when(api.CSame, e, num(1)), when(api.CLess, num(1), e)} {
			if so, wrong := Holds(c, "s", nil, nil); so || wrong != api.ErrRulesForm {
				t.Errorf("Holds: %v, %v", so, wrong)
			}
			r := api.Rules{Handlers: []api.Handler{{Command: "do", Cases: []api.Case{{When: []api.Cond{c}, Refuse: "why"}}}}}
			if got := Check(r); got != api.ErrRulesMany {
				t.Errorf("Check: %v", got)
			}
			if _, wrong := Decide(r, "s", nil, "do", nil); wrong != api.ErrRulesForm {
				t.Errorf("Decide: %v", wrong)
			}
		}
		r := api.Rules{Evolves: []api.Evolve{{Type: "done", Sets: []api.Assign{as("a", e), as("b", num(1))}}}}
		if got := Check(r); got != api.ErrRulesMany {
			t.Errorf("Check: %v", got)
		}
		if got := Fold(r, "s", nil, api.Event{Type: "done"}); !alike(got, []api.Field{number("b", 1)}) {
			t.Errorf("Fold: %+v", got)
		}
		// As B of a CHas it is not looked at.
		has := api.Cond{Kind: api.CHas, A: st("a"), B: e}
		if so, wrong := Holds(has, "s", record(1), nil); so || wrong != api.OK {
			t.Errorf("Holds: %v, %v", so, wrong)
		}
		if got := Check(api.Rules{Handlers: []api.Handler{{Command: "do", Cases: []api.Case{{When: []api.Cond{has}, Refuse: "why"}}}}}); got != api.OK {
			t.Errorf("Check: %v", got)
		}
	}
}

// The chapter's examples of Eval.
func TestEvalExamples(t *testing.T) {
	refuses(t, ex(api.EMul, num(100_000_000_000_000), num(11)), nil, nil, api.ErrRulesRange)
	refuses(t, ex(api.EAdd, num(1), txt("a")), nil, nil, api.ErrRulesType)
	evals(t, ex(api.ELen, ex(api.EJoin, txt("ab"), self())), "xyz", nil, nil, int0(5))
}
