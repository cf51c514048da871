package rules

import (
	"slices"
	"strings"
	"testing"

	"cartulary/api"
)

// swapped asks for the error of a table in which another thing stands at a place; then what stood there is put back.
func swapped[T any](t *testing.T, r *api.Rules, at *T, x T, want api.Errno) {
	t.Helper()
	was := *at
	*at = x
	isCheck(t, *r, want)
	*at = was
}

// manyAt asks for api.ErrRulesMany, if x, of which there are n, is more than most.
func manyAt[T any](t *testing.T, r *api.Rules, at *T, x T, n, most int) {
	t.Helper()
	want := api.OK
	if n > most {
		want = api.ErrRulesMany
	}
	swapped(t, r, at, x, want)
}

// P13.1: tables that may be.
func TestCheckTakes(t *testing.T) {
	isCheck(t, api.Rules{}, api.OK)
	isCheck(t, table(), api.OK)
	isCheck(t, api.Rules{Handlers: []api.Handler{{Command: "a"}}}, api.OK)
	isCheck(t, api.Rules{Evolves: []api.Evolve{{Type: "a"}}}, api.OK)
	isCheck(t, api.Rules{Handlers: []api.Handler{}, Evolves: []api.Evolve{}}, api.OK)
	// Names of different kinds of things may be the same, and so may those of Drops, and of an Evolve's Sets.
	same := api.Emit{Type: "a", Sets: []api.Assign{as("a", st("a"))}}
	h := api.Handler{Command: "a", Needs: []api.Need{{Name: "a"}}, Cases: []api.Case{{Emits: []api.Emit{same, same}}, {Emits: []api.Emit{same}}}}
	other := api.Handler{Command: "b", Needs: h.Needs, Cases: h.Cases}
	v := api.Evolve{Type: "a", Sets: []api.Assign{as("a", num(1)), as("a", num(2))}, Drops: []string{"a", "a"}}
	isCheck(t, api.Rules{Handlers: []api.Handler{h, other}, Evolves: []api.Evolve{v, {Type: "b", Sets: v.Sets, Drops: v.Drops}}}, api.OK)
}

// P13.1: so many of each, at every place where they stand.
func TestCheckCounts(t *testing.T) {
	r := table()
	for _, n := range []int{0, 1, 31, 32, 33, 34, 100, 300} {
		manyAt(t, &r, &r.Handlers, manyHandlers(n), n, 32)
		manyAt(t, &r, &r.Evolves, manyEvolves(n), n, 32)
	}
	for _, n := range []int{0, 1, 15, 16, 17, 18, 33, 272} {
		for _, p := range caseLists(&r) {
			manyAt(t, &r, p, manyCases(n), n, 16)
		}
		for _, p := range needLists(&r) {
			manyAt(t, &r, p, manyNeeds(n), n, 16)
		}
		for _, p := range whenLists(&r) {
			manyAt(t, &r, p, manyConds(n), n, 16)
		}
		for _, p := range emitLists(&r) {
			manyAt(t, &r, p, manyEmits(max(n, 1)), n, 16)
		}
		for _, p := range setLists(&r) {
			manyAt(t, &r, p, manySets(n), n, 16)
		}
		for _, p := range dropLists(&r) {
			manyAt(t, &r, p, manyDrops(n), n, 16)
		}
	}
	for _, p := range emitLists(&r) {
		swapped(t, &r, p, nil, api.ErrRulesForm)
	}
}

// P13.1: the limits are of each list, not of all together: a table that is full may be.
func TestCheckFull(t *testing.T) {
	r := api.Rules{Handlers: manyHandlers(32), Evolves: manyEvolves(32)}
	full := manySets(16)
	for i := range full {
		full[i].E = deep(64)
	}
	for i := range r.Handlers {
		r.Handlers[i].Needs, r.Handlers[i].Cases = manyNeeds(16), manyCases(16)
		r.Evolves[i].Sets, r.Evolves[i].Drops = full, manyDrops(16)
	}
	for _, p := range casesIn(&r) {
		for range 16 {
			p.When = append(p.When, when(api.CMost, broad(64), deep(64)))
		}
	}
	last := &r.Handlers[31].Cases[15]
	last.Refuse, last.Emits = "", manyEmits(16)
	for i := range last.Emits {
		last.Emits[i].Sets = full
	}
	isCheck(t, r, api.OK)
	swapped(t, &r, &last.Emits, append(slices.Clone(last.Emits), api.Emit{Type: "done"}), api.ErrRulesMany)
	swapped(t, &r, &last.Emits[15].Sets, append(slices.Clone(full), as("z", num(1))), api.ErrRulesMany)
}

// P13.1: expressions of so many nodes, at every place: deep ones, broad ones, and such as lean to a side.
func TestCheckNodes(t *testing.T) {
	r := table()
	for _, p := range freeExprs(&r) {
		for _, n := range []int{1, 2, 3, 63, 64, 65, 66, 320} {
			manyAt(t, &r, p, deep(n), n, 64)
			manyAt(t, &r, p, broad(n), n, 64)
		}
		for _, n := range []int{63, 65} {
			manyAt(t, &r, p, leaning(n, true), n, 64)
			manyAt(t, &r, p, leaning(n, false), n, 64)
		}
	}
	// Such as are of a wrong form are counted too, A of a CHas among them.
	for i, p := range allExprs(&r) {
		kind := i%15 - 1
		swapped(t, &r, p, named(wide(kind, 64)), api.ErrRulesForm)
		swapped(t, &r, p, named(wide(kind, 65)), api.ErrRulesMany)
		swapped(t, &r, p, named(wide(kind, 1000)), api.ErrRulesMany)
	}
}

// named is an expression whose own S is a name.
func named(e api.Expr) api.Expr {
	e.S = "x"
	return e
}

// withArgs is an expression of that kind with so many Args, S a name.
func withArgs(kind, n int) api.Expr { return named(wide(kind, n+1)) }

// P13.1: each kind of an expression, with each number of Args, at every place, and deep within.
func TestCheckKinds(t *testing.T) {
	r := table()
	free := freeExprs(&r)
	places := slices.Concat(free, nodesIn(free[0]), nodesIn(free[1]), nodesIn(free[len(free)-3]))
	for kind := -2; kind <= 14; kind++ {
		for n := range 4 {
			e := withArgs(kind, n)
			want := api.ErrRulesForm
			if kind >= 1 && kind <= 11 && plainArgs[kind] == n {
				want = api.OK
			}
			for i, p := range places {
				if i >= len(free) || i == 0 || (i+kind+n)%5 == 0 { // of so many places all kinds stand at some
					swapped(t, &r, p, e, want)
				}
			}
			if kind != api.EState && kind != api.EGiven {
				want = api.ErrRulesForm
			}
			for _, p := range hasExprs(&r) {
				swapped(t, &r, p, e, want)
			}
		}
	}
	for _, kind := range []int{most, least, 1 << 32, 1<<32 + 1, 256 + 1} {
		swapped(t, &r, places[0], api.Expr{Kind: kind}, api.ErrRulesForm)
		swapped(t, &r, &condsIn(&r)[0].Kind, kind, api.ErrRulesForm)
	}
}

// P13.1: each kind of a condition, at every place. Of a CHas B is not looked at, whatever it is; of one that is none it is.
func TestCheckConds(t *testing.T) {
	r := table()
	others := []struct {
		e    api.Expr
		want api.Errno
	}{{num(1), api.OK}, {gv("x"), api.OK}, {wide(api.EAdd, 65), api.ErrRulesMany}, {deep(65), api.ErrRulesMany}, {st("X"), api.ErrRulesName}, {ex(api.EShow, gv("")), api.ErrRulesName}, {api.Expr{}, api.ErrRulesForm}, {txt(strings.Repeat("x", 201)), api.ErrRulesForm}}
	for i, p := range condsIn(&r) {
		for kind := -2; kind <= 7; kind++ {
			for _, b := range others {
				want := b.want
				switch {
				case kind == api.CHas:
					want = api.OK
				case (kind < 1 || kind > 4) && want == api.OK:
					want = api.ErrRulesForm
				}
				swapped(t, &r, p, api.Cond{Kind: kind, Not: i%2 == 0, A: st("x"), B: b.e}, want)
			}
		}
	}
	for _, p := range hasExprs(&r) {
		for _, a := range []api.Expr{num(1), txt("x"), self(), ex(api.EAdd, st("x"), st("x")), ex(api.ELen, st("x")), {}, {Kind: -1, S: "x"}, {Kind: 12, S: "x"}} {
			swapped(t, &r, p, a, api.ErrRulesForm)
		}
	}
}

// P13.1: names that may be, and such as may not, at every place.
func TestCheckNames(t *testing.T) {
	r := table()
	long := strings.Repeat("q", 32)
	for _, p := range namesIn(&r) {
		for _, name := range []string{"q", "q9_z", long} {
			swapped(t, &r, p, name, api.OK)
		}
		for _, name := range []string{"", "Q", "9q", "_q", "q-", "qé", "q\x00", "q\n", long + "q", strings.Repeat("q", 300)} {
			swapped(t, &r, p, name, api.ErrRulesName)
		}
	}
	// The S of others may be anything, and so may that of a node of no kind, for its name's sake.
	for kind := -1; kind <= 13; kind++ {
		e, want := withArgs(kind, 1), api.ErrRulesForm
		if kind >= 1 && kind <= 11 {
			e, want = withArgs(kind, plainArgs[kind]), api.OK
		}
		if kind == api.EState || kind == api.EGiven {
			want = api.ErrRulesName
		}
		e.S = "NO NAME"
		swapped(t, &r, freeExprs(&r)[0], e, want)
		swapped(t, &r, &freeExprs(&r)[0].Args[1], e, want)
	}
	// Also within what is of a wrong form.
	for _, e := range []api.Expr{ex(api.EInt, st("X")), ex(0, num(1), gv("X")), ex(99, num(1), num(1), ex(api.ESelf, gv(""))), ex(api.EAdd, st("X")), {Kind: api.EState, S: "X", Args: []api.Expr{num(1)}}} {
		swapped(t, &r, freeExprs(&r)[3], e, api.ErrRulesName)
		swapped(t, &r, hasExprs(&r)[3], e, api.ErrRulesName)
	}
}

// P13.1: names that are there twice, next to each other and apart.
func TestCheckTwice(t *testing.T) {
	r := table()
	for _, pair := range [][2]int{{0, 1}, {1, 2}, {0, 2}} {
		a, b := pair[0], pair[1]
		swapped(t, &r, &r.Handlers[b].Command, r.Handlers[a].Command, api.ErrRulesName)
		swapped(t, &r, &r.Evolves[b].Type, r.Evolves[a].Type, api.ErrRulesName)
		for _, p := range needLists(&r) {
			swapped(t, &r, &(*p)[b].Name, (*p)[a].Name, api.ErrRulesName)
		}
		for _, p := range emitSets(&r) {
			swapped(t, &r, &(*p)[b].Name, (*p)[a].Name, api.ErrRulesName)
		}
		for _, p := range evolveSets(&r) {
			swapped(t, &r, &(*p)[b].Name, (*p)[a].Name, api.OK)
		}
		for _, p := range dropLists(&r) {
			swapped(t, &r, &(*p)[b], (*p)[a], api.OK)
		}
		for _, p := range emitLists(&r) {
			swapped(t, &r, &(*p)[b].Type, (*p)[a].Type, api.OK)
		}
	}
	// A need that is there twice, as an integer and as a text; the first and the last of many.
	isCheck(t, api.Rules{Handlers: []api.Handler{{Command: "a", Needs: []api.Need{{Name: "n"}, {Name: "n", Text: true}}}}}, api.ErrRulesName)
	full := api.Rules{Handlers: manyHandlers(32), Evolves: manyEvolves(32)}
	swapped(t, &full, &full.Handlers[31].Command, "do0", api.ErrRulesName)
	swapped(t, &full, &full.Evolves[31].Type, "done0", api.ErrRulesName)
}

// P13.1: texts and reasons of so many bytes, at every place.
func TestCheckTexts(t *testing.T) {
	r := table()
	free := freeExprs(&r)
	places := slices.Concat(free, nodesIn(free[0]), nodesIn(free[len(free)-3]))
	for i, n := range []int{0, 1, 199, 200, 201, 202, 456, 1000} {
		want := api.OK
		if n > 200 {
			want = api.ErrRulesForm
		}
		s := strings.Repeat([]string{"x", "\xff", "\x00"}[i%3], n)
		for _, p := range places {
			swapped(t, &r, p, txt(s), want)
		}
		if n == 0 {
			want = api.ErrRulesForm
		}
		for _, p := range casesIn(&r) {
			swapped(t, &r, p, api.Case{When: p.When, Refuse: s}, want)
		}
	}
	// The S of others is no text, and N is any number.
	for _, kind := range []int{api.EInt, api.ESelf, api.EAdd, api.ESub, api.EMul, api.EJoin, api.ELen, api.EShow} {
		e := withArgs(kind, plainArgs[kind])
		e.S, e.N = strings.Repeat("x", 201), least
		swapped(t, &r, places[0], e, api.OK)
	}
}

// P13.1: a case has a reason, or Emits.
func TestCheckCase(t *testing.T) {
	r := table()
	emits := []api.Emit{{Type: "done"}}
	for _, p := range casesIn(&r) {
		for _, c := range []struct {
			refuse string
			emits  []api.Emit
			want   api.Errno
		}{{"", nil, api.ErrRulesForm}, {"", []api.Emit{}, api.ErrRulesForm}, {"x", nil, api.OK}, {"x", []api.Emit{}, api.OK}, {"", emits, api.OK}, {"x", emits, api.ErrRulesForm}, {"\x00", emits, api.ErrRulesForm}} {
			swapped(t, &r, p, api.Case{When: p.When, Refuse: c.refuse, Emits: c.emits}, c.want)
		}
	}
}

// spoilt is one thing that makes a table wrong: its error, and how.
type spoilt struct {
	e   api.Errno
	how func(r *api.Rules)
}

// into changes what stands at one of some places.
func into[T any](places func(r *api.Rules) []*T, i int, change func(x *T)) func(r *api.Rules) {
	return func(r *api.Rules) { change(places(r)[i]) }
}

// behind puts things at the end of one of some lists.
func behind[T any](places func(r *api.Rules) []*[]T, i int, l []T) func(r *api.Rules) {
	return into(places, i, func(x *[]T) { *x = append(slices.Clone(*x), l...) })
}

// manySpoils are such that there is too much of something, each at every place. (Cases, Needs and Drops stand at as many.)
func manySpoils() (l []spoilt) {
	r := table()
	add := func(how func(r *api.Rules)) { l = append(l, spoilt{api.ErrRulesMany, how}) }
	add(func(r *api.Rules) { r.Handlers = append(slices.Clone(r.Handlers), manyHandlers(30)...) })
	add(func(r *api.Rules) { r.Evolves = append(slices.Clone(r.Evolves), manyEvolves(30)...) })
	for i := range caseLists(&r) {
		add(behind(caseLists, i, manyCases(14)))
		add(behind(needLists, i, manyNeeds(14)))
		add(behind(dropLists, i, manyDrops(14)))
	}
	for i := range whenLists(&r) {
		add(behind(whenLists, i, manyConds(14)))
	}
	for i := range emitLists(&r) {
		add(behind(emitLists, i, manyEmits(14)))
	}
	for i := range setLists(&r) {
		add(behind(setLists, i, manySets(14)))
	}
	for i := range allExprs(&r) {
		add(into(allExprs, i, func(e *api.Expr) { *e = broad(65) }))
	}
	return l
}

// nameSpoils are names that may not be, each at every place.
func nameSpoils() (l []spoilt) {
	r := table()
	add := func(how func(r *api.Rules)) { l = append(l, spoilt{api.ErrRulesName, how}) }
	for i := range namesIn(&r) {
		add(into(namesIn, i, func(s *string) { *s = "NO" }))
	}
	for i := range allExprs(&r) {
		add(into(allExprs, i, func(e *api.Expr) { e.Args = append(slices.Clone(e.Args), st("")) }))
	}
	for i := range needLists(&r) {
		add(into(needLists, i, func(l *[]api.Need) { (*l)[2].Name = (*l)[0].Name }))
	}
	for i := range emitSets(&r) {
		add(into(emitSets, i, func(l *[]api.Assign) { (*l)[2].Name = (*l)[0].Name }))
	}
	add(func(r *api.Rules) { r.Handlers[2].Command = r.Handlers[0].Command })
	add(func(r *api.Rules) { r.Evolves[2].Type = r.Evolves[0].Type })
	return l
}

// formSpoils are cases, conditions and expressions that may not be, each at every place.
func formSpoils() (l []spoilt) {
	r := table()
	add := func(how func(r *api.Rules)) { l = append(l, spoilt{api.ErrRulesForm, how}) }
	for i, c := range casesIn(&r) {
		add(into(casesIn, i, func(c *api.Case) { c.Refuse = strings.Repeat("x", 201) }))
		wrong := "both"
		if len(c.Emits) == 0 {
			wrong = ""
		}
		add(into(casesIn, i, func(c *api.Case) { c.Refuse = wrong }))
	}
	for i, c := range condsIn(&r) {
		if c.Kind != api.CHas {
			add(into(condsIn, i, func(c *api.Cond) { c.Kind = 5 }))
		}
	}
	for i := range allExprs(&r) {
		add(into(allExprs, i, func(e *api.Expr) { e.Args = append(slices.Clone(e.Args), num(1)) }))
		add(into(allExprs, i, func(e *api.Expr) { e.Args = append(slices.Clone(e.Args), txt(strings.Repeat("x", 201))) }))
	}
	return l
}

// P13.1: of several errors in one table Many is told ahead of Name, and Name ahead of Form, wherever each stands.
func TestCheckFirst(t *testing.T) {
	many, name, form := manySpoils(), nameSpoils(), formSpoils()
	for _, a := range slices.Concat(many, name, form) {
		r := table()
		a.how(&r)
		isCheck(t, r, a.e)
	}
	firsts(t, many, name, 61)
	firsts(t, many, form, 61)
	firsts(t, name, form, 61)
}

// firsts puts two wrong things into a table, and asks for the error of the first; of all pairs one in so many.
func firsts(t *testing.T, first, second []spoilt, one int) {
	t.Helper()
	for i, a := range first {
		for j := i % one; j < len(second); j += one {
			r := table()
			second[j].how(&r)
			a.how(&r)
			if got := Check(r); got != a.e {
				t.Fatalf("Check, spoilt by %d and %d: %v, not %v", i, j, got, a.e)
			}
		}
	}
}
