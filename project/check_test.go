package project

import (
	"slices"
	"strings"
	"testing"

	"cartulary/api"
	"cartulary/store"
)

// checks asks Check for an answer; where that is an error, Open too, which answers no view then.
func checks(t *testing.T, s *store.Store, what string, p api.Projection, want api.Errno) {
	t.Helper()
	for range 2 {
		if got := Check(p); got != want {
			t.Errorf("%s: Check: %v, not %v", what, got, want)
		}
	}
	if plain := plainCheck(p); plain != want {
		t.Errorf("%s: the plain one: %v, not %v", what, plain, want)
	}
	v, e := Open(s, p, nil)
	if e != want || (v == nil) != (want != api.OK) {
		t.Errorf("%s: Open: %v, %v, not %v", what, v, e, want)
	}
}

// right is a projection with which nothing is wrong, of so many sums.
func right(sums int) api.Projection {
	p := named("right")
	for range sums {
		p.Sums = append(p.Sums, onto("taken", self(), gv("n")))
	}
	return p
}

// mayBe and mayNotBe are names.
func mayBe() []string {
	return []string{"a", "z", "sums", "a0", "a_", "z9_z", "a__0", strings.Repeat("a", 19), strings.Repeat("z", 20)}
}

func mayNotBe() []string {
	return []string{"", "A", "aA", "0", "0a", "_", "_a", "a-", "a.b", "a b", " a", "a ", "a\x00", "\x00", "\xff", "é", "aé", "a\n", "`", "{", "a{", "a`", "a/", "a:", strings.Repeat("a", 33), strings.Repeat("a", 61), strings.Repeat("a", 1000)}
}

// P17.1: the Name: one that may be a name, of at most MaxViewName bytes.
func TestCheckName(t *testing.T) {
	s := begun(t, 64).s
	for _, name := range mayBe() {
		checks(t, s, name, named(name), api.OK)
		checks(t, s, name, named(name, right(16).Sums...), api.OK)
	}
	long := []string{strings.Repeat("a", 21), strings.Repeat("a", 22), strings.Repeat("z", 25), strings.Repeat("a", 30), strings.Repeat("a", 32)}
	for _, name := range slices.Concat(mayNotBe(), long) {
		checks(t, s, name, named(name), api.ErrProjectName)
		checks(t, s, name, named(name, right(3).Sums...), api.ErrProjectName)
		checks(t, s, name, named(name, right(17).Sums...), api.ErrProjectName) // ahead of ErrProjectMany
		checks(t, s, name, named(name, onto("a", st("x"), num(1))), api.ErrProjectName)
	}
}

// P17.1: at most MaxFolds Sums, whatever they are: ahead of what is wrong with one.
func TestCheckMany(t *testing.T) {
	s := begun(t, 64).s
	for _, n := range []int{0, 1, 2, 15, 16} {
		checks(t, s, "few", right(n), api.OK)
	}
	for _, n := range []int{17, 18, 32, 500} {
		p := right(n)
		checks(t, s, "many", p, api.ErrProjectMany)
		for at, x := range []api.Sum{onto("A", self(), num(1)), onto("a", st("x"), num(1)), {}} {
			p := right(n)
			p.Sums[at*8] = x
			checks(t, s, "many, and one is wrong", p, api.ErrProjectMany)
			p.Sums[n-1] = x
			checks(t, s, "many, and some are wrong", p, api.ErrProjectMany)
		}
	}
	checks(t, s, "the same ones", right(16), api.OK)
	checks(t, s, "none", api.Projection{Name: "a", Sums: []api.Sum{}}, api.OK)
}

// P17.1: the Type of each sum: up to the 32 bytes of a name.
func TestCheckType(t *testing.T) {
	s := begun(t, 64).s
	for at := range 16 {
		for _, kind := range slices.Concat(mayBe(), []string{strings.Repeat("a", 21), strings.Repeat("a", 32)}) {
			p := right(16)
			p.Sums[at].Type = kind
			checks(t, s, kind, p, api.OK)
		}
		for _, kind := range mayNotBe() {
			p := right(16)
			p.Sums[at].Type = kind
			checks(t, s, kind, p, api.ErrProjectName)
		}
	}
}

// rightExprs are expressions that may be.
func rightExprs() []api.Expr {
	return []api.Expr{
		num(0), num(1), num(bound), num(-bound), num(bound + 1), num(most), num(least), {Kind: api.EInt, N: 1, S: strings.Repeat("x", 300)},
		txt(""), txt("x"), txt("\xff\x00"), txt(strings.Repeat("x", 199)), txt(strings.Repeat("\xff", 200)), txt(strings.Repeat("é", 100)), {Kind: api.EText, S: "a", N: least},
		gv("a"), gv("n"), gv("a_0"), gv(strings.Repeat("a", 32)), {Kind: api.EGiven, S: "a", N: 5},
		self(), {Kind: api.ESelf, S: "A", N: most}, {Kind: api.ESelf, S: strings.Repeat("x", 300), Args: []api.Expr{}},
		ex(api.EAdd, num(1), num(2)), ex(api.ESub, gv("a"), gv("b")), ex(api.EMul, num(most), num(most)),
		ex(api.EJoin, self(), txt("x")), ex(api.ELen, self()), ex(api.EShow, gv("n")),
		ex(api.EAdd, txt("a"), num(1)), ex(api.EShow, txt("a")), ex(api.EJoin, num(1), num(2)), ex(api.ELen, num(1)), // of the wrong kinds, but of the right form
		{Kind: api.EAdd, S: "A", N: 7, Args: []api.Expr{num(1), num(2)}},
		chain(2, num(1)), chain(63, gv("n")), chain(64, gv("n")), full(63), ex(api.EShow, full(63)),
		chain(64, txt(strings.Repeat("x", 200))), ex(api.EJoin, txt(strings.Repeat("x", 200)), txt(strings.Repeat("x", 200))),
	}
}

// wrongLeaves are expressions of one node that may not be.
func wrongLeaves() []api.Expr {
	l := []api.Expr{
		{}, {Kind: -1}, {Kind: 12}, {Kind: 100}, {Kind: most}, {Kind: least},
		txt(strings.Repeat("x", 201)), txt(strings.Repeat("é", 101)), txt(strings.Repeat("\xff", 1000)),
		{Kind: api.EAdd}, {Kind: api.ESub}, {Kind: api.EMul}, {Kind: api.EJoin}, {Kind: api.ELen}, {Kind: api.EShow},
		st("a"), st("left"), st(strings.Repeat("a", 32)), {Kind: api.EState, S: "n", N: 5},
	}
	for _, name := range mayNotBe() {
		l = append(l, gv(name), st(name))
	}
	return l
}

// wrongExprs are expressions that may not be.
func wrongExprs() []api.Expr {
	l := wrongLeaves()
	for kind := range 14 {
		for n := range 5 {
			e := ex(kind, slices.Repeat([]api.Expr{num(1)}, n)...)
			if !plainForm(e) {
				l = append(l, e)
			}
		}
	}
	for _, bad := range wrongLeaves() {
		l = append(l, ex(api.EAdd, bad, num(1)), ex(api.EMul, num(1), bad), ex(api.EShow, bad), ex(api.EJoin, txt("x"), bad), ex(api.ELen, bad))
	}
	return append(l, chain(65, num(1)), chain(66, gv("n")), chain(1000, gv("n")), full(65), full(1001), ex(api.EAdd, full(33), full(31)), ex(api.EAdd, num(1), full(63)), ex(api.EAdd, full(63), num(1)))
}

// P17.1: a Key, and what is to be added, that rules.Check takes; and those that it does not, at each place.
func TestCheckForm(t *testing.T) {
	s := begun(t, 64).s
	places := []int{0, 1, 7, 15}
	for i, e := range rightExprs() {
		checks(t, s, "both", named("a", onto("b", e, e)), api.OK)
		p := right(16)
		p.Sums[places[i%4]].Key = e
		checks(t, s, "the key", p, api.OK)
		p = right(16)
		p.Sums[places[i%4]].Add = e
		checks(t, s, "what is added", p, api.OK)
	}
	for i, e := range wrongExprs() {
		checks(t, s, "both", named("a", onto("b", e, e)), api.ErrProjectForm)
		p := right(16)
		p.Sums[places[i%4]].Key = e
		checks(t, s, "the key", p, api.ErrProjectForm)
		p = right(16)
		p.Sums[places[i%4]].Add = e
		checks(t, s, "what is added", p, api.ErrProjectForm)
	}
	for at := range 16 {
		for _, x := range []api.Sum{onto("a", st("x"), num(1)), onto("a", num(1), st("x")), onto("a", api.Expr{}, num(1)), onto("a", self(), txt(strings.Repeat("x", 201)))} {
			p := right(16)
			p.Sums[at] = x
			checks(t, s, "at each place", p, api.ErrProjectForm)
		}
	}
}

// instead is an expression with another one in the place of the node of this number, each ahead of its Args.
func instead(e api.Expr, at int, with api.Expr) api.Expr {
	if at == 0 {
		return with
	}
	at--
	e.Args = slices.Clone(e.Args)
	for i, a := range e.Args {
		if n := plainNodes(a); at < n {
			e.Args[i] = instead(a, at, with)
			return e
		} else {
			at -= n
		}
	}
	return e
}

// P17.1: a field of a state anywhere: at each place of deep and of broad expressions.
func TestCheckState(t *testing.T) {
	s := begun(t, 64).s
	mixed := ex(api.EAdd, ex(api.EMul, ex(api.ELen, ex(api.EJoin, self(), ex(api.EShow, gv("n")))), num(2)), ex(api.ESub, gv("a"), ex(api.ELen, txt("x"))))
	for _, e := range []api.Expr{chain(64, gv("n")), full(63), mixed, ex(api.EJoin, chain(32, num(1)), chain(30, num(1)))} {
		checks(t, s, "without a state", named("a", onto("b", e, e)), api.OK)
		for at := range plainNodes(e) {
			given := instead(e, at, gv("left"))
			checks(t, s, "a given field", named("a", onto("b", given, given)), api.OK)
			state := instead(e, at, st("left"))
			checks(t, s, "a key of a state", named("a", onto("b", state, e)), api.ErrProjectForm)
			checks(t, s, "a state is added", named("a", onto("b", e, state)), api.ErrProjectForm)
		}
	}
}

// P17.1: of the first sum that is wrong: its Type ahead of its expressions, and whatever the later ones are.
func TestCheckFirst(t *testing.T) {
	s := begun(t, 64).s
	kind, key, add := onto("A", self(), num(1)), onto("a", st("x"), num(1)), onto("a", self(), api.Expr{})
	wrong := []struct {
		x api.Sum
		e api.Errno
	}{
		{kind, api.ErrProjectName}, {key, api.ErrProjectForm}, {add, api.ErrProjectForm}, {onto("a", full(65), num(1)), api.ErrProjectForm},
		{onto("", st("x"), num(1)), api.ErrProjectName}, {onto("", self(), st("x")), api.ErrProjectName}, {onto("", api.Expr{}, api.Expr{}), api.ErrProjectName},
		{onto("0", full(65), gv("A")), api.ErrProjectName}, {api.Sum{}, api.ErrProjectName}, {onto("a", gv("A"), num(1)), api.ErrProjectForm}, {onto("a", api.Expr{}, st("")), api.ErrProjectForm},
	}
	for first := range 16 {
		for second := first + 1; second < 16; second++ {
			for _, a := range wrong {
				for _, b := range wrong {
					p := right(16)
					p.Sums[first], p.Sums[second] = a.x, b.x
					if got := Check(p); got != a.e {
						t.Fatalf("%+v, %+v: %v, not %v", a.x, b.x, got, a.e)
					}
				}
			}
		}
		for _, a := range wrong {
			p := right(16)
			p.Sums[first] = a.x
			checks(t, s, "one is wrong", p, a.e)
		}
	}
	for _, a := range wrong {
		checks(t, s, "all are", named("a", slices.Repeat([]api.Sum{a.x}, 16)...), a.e)
	}
}

// P17.1, P17.4: what Check takes may be a view: it is opened, and takes events.
func TestCheckedTakes(t *testing.T) {
	w := example(t)
	for _, e := range rightExprs() {
		for _, p := range []api.Projection{named("x", onto("taken", e, num(1))), named("x", onto("taken", self(), e)), named("x", onto("taken", e, e))} {
			w.tick(w.open(p), p, most)
		}
	}
}
