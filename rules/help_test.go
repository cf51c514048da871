package rules

import (
	"fmt"
	"math/big"
	"reflect"
	"regexp"
	"slices"
	"strings"
	"testing"

	"cartulary/api"
)

const (
	most  = 1<<63 - 1
	least = -1 << 63
	bound = 1_000_000_000_000_000
)

// num, txt, st, gv, self are expressions without Args; ex is one with them.
func num(n int) api.Expr { return api.Expr{Kind: api.EInt, N: n} }

func txt(s string) api.Expr { return api.Expr{Kind: api.EText, S: s} }

func st(name string) api.Expr { return api.Expr{Kind: api.EState, S: name} }

func gv(name string) api.Expr { return api.Expr{Kind: api.EGiven, S: name} }

func self() api.Expr { return api.Expr{Kind: api.ESelf} }

func ex(kind int, args ...api.Expr) api.Expr { return api.Expr{Kind: kind, Args: args} }

// when is a condition.
func when(kind int, a, b api.Expr) api.Cond { return api.Cond{Kind: kind, A: a, B: b} }

// not is the other one.
func not(c api.Cond) api.Cond {
	c.Not = !c.Not
	return c
}

// as is an assignment.
func as(name string, e api.Expr) api.Assign { return api.Assign{Name: name, E: e} }

// number and words are fields; of an empty name they are values.
func number(name string, n int) api.Field { return api.Field{Name: name, N: n} }

func words(name, s string) api.Field { return api.Field{Name: name, Text: true, S: s} }

// record is so many integers of rising names.
func record(n int) []api.Field {
	var l []api.Field
	for i := range n {
		l = append(l, number(fmt.Sprintf("f%02d", i), i))
	}
	return l
}

// deep is an expression of so many nodes, each the Arg of another one, and none of a wrong kind: of an odd number an integer, else a text.
func deep(n int) api.Expr {
	e := num(7)
	for i := 1; i < n; i++ {
		if i%2 == 1 {
			e = ex(api.EShow, e)
		} else {
			e = ex(api.ELen, e)
		}
	}
	return e
}

// broad is a tree of so many nodes, as low as it may be, of right form.
func broad(n int) api.Expr {
	switch {
	case n <= 1:
		return num(n)
	case n%2 == 0:
		return ex(api.EShow, broad(n-1))
	}
	left := (n - 1) / 2
	if left%2 == 0 {
		left--
	}
	return ex(api.EAdd, broad(left), broad(n-1-left))
}

// leaning is a sum of so many nodes (an odd number), all to the left or all to the right.
func leaning(n int, left bool) api.Expr {
	e := num(1)
	for range (n - 1) / 2 {
		if left {
			e = ex(api.EAdd, e, num(1))
		} else {
			e = ex(api.EAdd, num(1), e)
		}
	}
	return e
}

// wide is one node with so many Args less one, so many nodes in all.
func wide(kind, n int) api.Expr {
	e := api.Expr{Kind: kind}
	for range n - 1 {
		e.Args = append(e.Args, num(1))
	}
	return e
}

// The plain ones: the chapter's words, each as a whole, by means that the package has not: errors are answered, integers have no bounds, and of a table all that is wrong is gathered.

var aName = regexp.MustCompile(`^[a-z][a-z0-9_]{0,31}$`)

func plainGet(l []api.Field, name string) (api.Field, bool) {
	for _, f := range l {
		if f.Name == name {
			return f, true
		}
	}
	return api.Field{}, false
}

func plainSet(l []api.Field, f api.Field) []api.Field {
	out := slices.Clone(l)
	for i := range out {
		if out[i].Name == f.Name {
			out[i] = f
			return out
		}
	}
	for i := range out {
		if out[i].Name > f.Name {
			return slices.Insert(out, i, f)
		}
	}
	return append(out, f)
}

func plainDrop(l []api.Field, name string) []api.Field {
	for i := range l {
		if l[i].Name == name {
			return slices.Delete(slices.Clone(l), i, i+1)
		}
	}
	return l
}

// plainCount is how many nodes an expression has.
func plainCount(e api.Expr) int {
	n := 1
	for _, a := range e.Args {
		n += plainCount(a)
	}
	return n
}

// plainArgs are how many Args each kind has.
var plainArgs = []int{-1, 0, 0, 0, 0, 0, 2, 2, 2, 2, 1, 1}

// plainForm tells whether kinds and numbers of Args are right.
func plainForm(e api.Expr) bool {
	if e.Kind < 1 || e.Kind > 11 || len(e.Args) != plainArgs[e.Kind] {
		return false
	}
	for _, a := range e.Args {
		if !plainForm(a) {
			return false
		}
	}
	return true
}

// plainEval is Eval.
func plainEval(e api.Expr, stream string, state, given []api.Field) (api.Field, api.Errno) {
	if plainCount(e) > 64 || !plainForm(e) {
		return api.Field{}, 132
	}
	return plainValue(e, stream, state, given)
}

func plainValue(e api.Expr, stream string, state, given []api.Field) (api.Field, api.Errno) {
	var l []api.Field
	for _, a := range e.Args {
		v, wrong := plainValue(a, stream, state, given)
		if wrong != 0 {
			return api.Field{}, wrong
		}
		l = append(l, v)
	}
	switch e.Kind {
	case 1:
		return api.Field{N: e.N}, 0
	case 2:
		return api.Field{Text: true, S: e.S}, 0
	case 3:
		return plainField(state, e.S)
	case 4:
		return plainField(given, e.S)
	case 5:
		return api.Field{Text: true, S: stream}, 0
	case 6, 7, 8:
		return plainSum(e.Kind, l[0], l[1])
	case 9:
		if !l[0].Text || !l[1].Text {
			return api.Field{}, 134
		}
		s := strings.Join([]string{l[0].S, l[1].S}, "")
		if len(s) > 200 {
			return api.Field{}, 135
		}
		return api.Field{Text: true, S: s}, 0
	}
	if l[0].Text != (e.Kind == 10) {
		return api.Field{}, 134
	}
	if e.Kind == 10 {
		return api.Field{N: len([]byte(l[0].S))}, 0
	}
	return api.Field{Text: true, S: fmt.Sprintf("%d", l[0].N)}, 0
}

func plainField(l []api.Field, name string) (api.Field, api.Errno) {
	f, ok := plainGet(l, name)
	if !ok {
		return api.Field{}, 133
	}
	return api.Field{Text: f.Text, N: f.N, S: f.S}, 0
}

func plainSum(kind int, a, b api.Field) (api.Field, api.Errno) {
	if a.Text || b.Text {
		return api.Field{}, 134
	}
	x, y, z := big.NewInt(int64(a.N)), big.NewInt(int64(b.N)), new(big.Int)
	switch kind {
	case 6:
		z.Add(x, y)
	case 7:
		z.Sub(x, y)
	case 8:
		z.Mul(x, y)
	}
	if z.CmpAbs(big.NewInt(bound)) > 0 {
		return api.Field{}, 135
	}
	return api.Field{N: int(z.Int64())}, 0
}

// plainHolds is Holds.
func plainHolds(c api.Cond, stream string, state, given []api.Field) (bool, api.Errno) {
	if c.Kind < 1 || c.Kind > 4 {
		return false, 132
	}
	if c.Kind == 4 {
		l := map[int][]api.Field{3: state, 4: given}
		if c.A.Kind != 3 && c.A.Kind != 4 {
			return false, 132
		}
		_, there := plainGet(l[c.A.Kind], c.A.S)
		return there == !c.Not, 0
	}
	a, wrong := plainEval(c.A, stream, state, given)
	if wrong != 0 {
		return false, wrong
	}
	b, wrong := plainEval(c.B, stream, state, given)
	if wrong != 0 {
		return false, wrong
	}
	if c.Kind != 1 && a.Text != b.Text {
		return false, 134
	}
	var so bool
	switch {
	case c.Kind == 1:
		so = a.Text == b.Text && a.N == b.N && a.S == b.S
	case c.Kind == 2 && a.Text:
		so = a.S < b.S
	case c.Kind == 2:
		so = a.N < b.N
	case a.Text:
		so = !(a.S > b.S)
	default:
		so = !(a.N > b.N)
	}
	return so == !c.Not, 0
}

// plainDecide is Decide.
func plainDecide(r api.Rules, stream string, state []api.Field, command string, given []api.Field) (api.Decision, api.Errno) {
	for _, h := range r.Handlers {
		if h.Command != command {
			continue
		}
		met := 0
		for _, n := range h.Needs {
			if f, ok := plainGet(given, n.Name); ok && f.Text == n.Text {
				met++
			}
		}
		if met < len(h.Needs) || len(h.Needs) != len(given) {
			return api.Decision{}, 137
		}
		return plainCases(h.Cases, stream, state, given)
	}
	return api.Decision{}, 136
}

func plainCases(l []api.Case, stream string, state, given []api.Field) (api.Decision, api.Errno) {
next:
	for _, c := range l {
		for _, w := range c.When {
			so, wrong := plainHolds(w, stream, state, given)
			if wrong != 0 {
				return api.Decision{}, wrong
			}
			if !so {
				continue next
			}
		}
		if len(c.Emits) == 0 {
			return api.Decision{Refused: true, Reason: c.Refuse}, 0
		}
		var d api.Decision
		for _, m := range c.Emits {
			var fields []api.Field
			for _, a := range m.Sets {
				v, wrong := plainEval(a.E, stream, state, given)
				if wrong != 0 {
					return api.Decision{}, wrong
				}
				fields = plainSet(fields, api.Field{Name: a.Name, Text: v.Text, N: v.N, S: v.S})
			}
			d.Events = append(d.Events, api.Event{Type: m.Type, Fields: fields})
		}
		return d, 0
	}
	return api.Decision{Refused: true, Reason: "no case"}, 0
}

// plainFold is Fold.
func plainFold(r api.Rules, stream string, state []api.Field, e api.Event) []api.Field {
	for _, v := range r.Evolves {
		if v.Type != e.Type {
			continue
		}
		out := slices.Clone(state)
		for _, a := range v.Sets {
			f, wrong := plainEval(a.E, stream, state, e.Fields)
			if wrong != 0 {
				continue
			}
			f.Name = a.Name
			if tried := plainSet(out, f); len(tried) < 17 {
				out = tried
			}
		}
		for _, name := range v.Drops {
			out = plainDrop(out, name)
		}
		return out
	}
	return state
}

// wrongs gathers what is wrong in a table.
type wrongs map[api.Errno]int

func (w wrongs) note(e api.Errno, so bool) {
	if so {
		w[e]++
	}
}

// names gathers those that may not be, and, if they must be apart, those that are there twice.
func (w wrongs) names(apart bool, l ...string) {
	for i, s := range l {
		w.note(131, !aName.MatchString(s))
		w.note(131, apart && slices.Contains(l[:i], s))
	}
}

func (w wrongs) sets(apart bool, l []api.Assign) {
	w.note(130, len(l) > 16)
	var names []string
	for _, a := range l {
		names = append(names, a.Name)
		w.expr(a.E)
	}
	w.names(apart, names...)
}

func (w wrongs) expr(e api.Expr) {
	w.note(130, plainCount(e) > 64)
	w.note(132, !plainForm(e))
	w.node(e)
}

func (w wrongs) node(e api.Expr) {
	w.note(131, (e.Kind == 3 || e.Kind == 4) && !aName.MatchString(e.S))
	w.note(132, e.Kind == 2 && len(e.S) > 200)
	for _, a := range e.Args {
		w.node(a)
	}
}

func (w wrongs) when(l []api.Cond) {
	w.note(130, len(l) > 16)
	for _, c := range l {
		w.note(132, c.Kind < 1 || c.Kind > 4)
		w.expr(c.A)
		if c.Kind == 4 {
			w.note(132, c.A.Kind != 3 && c.A.Kind != 4)
		} else {
			w.expr(c.B)
		}
	}
}

func (w wrongs) handler(h api.Handler) {
	w.note(130, len(h.Needs) > 16)
	w.note(130, len(h.Cases) > 16)
	var needs []string
	for _, n := range h.Needs {
		needs = append(needs, n.Name)
	}
	w.names(true, needs...)
	for _, c := range h.Cases {
		w.when(c.When)
		w.note(130, len(c.Emits) > 16)
		w.note(132, len(c.Refuse) > 200)
		w.note(132, len(c.Refuse) > 0 && len(c.Emits) > 0 || len(c.Refuse)+len(c.Emits) == 0)
		for _, m := range c.Emits {
			w.names(false, m.Type)
			w.sets(true, m.Sets)
		}
	}
}

// plainCheck is Check: the errors' numbers rise in the order in which they are told.
func plainCheck(r api.Rules) api.Errno {
	w := wrongs{}
	w.note(130, len(r.Handlers) > 32)
	w.note(130, len(r.Evolves) > 32)
	var commands, types []string
	for _, h := range r.Handlers {
		commands = append(commands, h.Command)
		w.handler(h)
	}
	for _, v := range r.Evolves {
		types = append(types, v.Type)
		w.sets(false, v.Sets)
		w.note(130, len(v.Drops) > 16)
		w.names(false, v.Drops...)
	}
	w.names(true, commands...)
	w.names(true, types...)
	for _, e := range []api.Errno{130, 131, 132} {
		if w[e] > 0 {
			return e
		}
	}
	return 0
}

// The calls, held against the plain ones.

// alike tells whether two things are: lists without elements are all the same.
func alike(a, b any) bool {
	return reflect.DeepEqual(emptied(a), emptied(b))
}

// emptied is a list, or a decision, in which no list is nil.
func emptied(x any) any {
	switch x := x.(type) {
	case []api.Field:
		return append([]api.Field{}, x...)
	case api.Decision:
		events := append([]api.Event{}, x.Events...)
		for i := range events {
			events[i].Fields = append([]api.Field{}, events[i].Fields...)
		}
		x.Events = events
		return x
	}
	return x
}

// brief is the beginning of what is told of a thing: tables are long.
func brief(x any) string {
	s := fmt.Sprintf("%+v", x)
	return s[:min(len(s), 2000)]
}

func isCheck(t *testing.T, r api.Rules, want api.Errno) {
	t.Helper()
	if got, plain := Check(r), plainCheck(r); got != want || plain != want {
		t.Fatalf("Check: %v, not %v (%v): %s", got, want, plain, brief(r))
	}
}

func isEval(t *testing.T, e api.Expr, stream string, state, given []api.Field) (api.Field, api.Errno) {
	t.Helper()
	want, ask := plainEval(e, stream, state, given)
	got, wrong := Eval(e, stream, state, given)
	if got != want || wrong != ask {
		t.Fatalf("Eval(%+v, %q, %+v, %+v): %+v, %v, not %+v, %v", e, stream, state, given, got, wrong, want, ask)
	}
	return got, wrong
}

func isHolds(t *testing.T, c api.Cond, stream string, state, given []api.Field) (bool, api.Errno) {
	t.Helper()
	want, ask := plainHolds(c, stream, state, given)
	got, wrong := Holds(c, stream, state, given)
	if got != want || wrong != ask {
		t.Fatalf("Holds(%+v, %q, %+v, %+v): %v, %v, not %v, %v", c, stream, state, given, got, wrong, want, ask)
	}
	return got, wrong
}

func isDecide(t *testing.T, r api.Rules, stream string, state []api.Field, command string, given []api.Field) (api.Decision, api.Errno) {
	t.Helper()
	want, ask := plainDecide(r, stream, state, command, given)
	got, wrong := Decide(r, stream, state, command, given)
	if !alike(got, want) || wrong != ask {
		t.Fatalf("Decide(%q, %+v, %q, %+v): %+v, %v, not %+v, %v: %s", stream, state, command, given, got, wrong, want, ask, brief(r))
	}
	return got, wrong
}

func isFold(t *testing.T, r api.Rules, stream string, state []api.Field, e api.Event) []api.Field {
	t.Helper()
	want := plainFold(r, stream, state, e)
	got := Fold(r, stream, state, e)
	if !alike(got, want) {
		t.Fatalf("Fold(%q, %+v, %+v): %+v, not %+v: %s", stream, state, e, got, want, brief(r))
	}
	return got
}

// evals asks for a value, refuses for an error.
func evals(t *testing.T, e api.Expr, stream string, state, given []api.Field, want api.Field) {
	t.Helper()
	if got, wrong := isEval(t, e, stream, state, given); got != want || wrong != api.OK {
		t.Errorf("Eval(%+v, %q): %+v, %v, not %+v", e, stream, got, wrong, want)
	}
}

func refuses(t *testing.T, e api.Expr, state, given []api.Field, want api.Errno) {
	t.Helper()
	if got, wrong := isEval(t, e, "s", state, given); got != (api.Field{}) || wrong != want {
		t.Errorf("Eval(%+v): %+v, %v, not %v", e, got, wrong, want)
	}
}

// holds asks whether a condition holds, and its other one.
func holds(t *testing.T, c api.Cond, state, given []api.Field, want bool) {
	t.Helper()
	for _, x := range []api.Cond{c, not(c)} {
		if got, e := isHolds(t, x, "s", state, given); got != (want != x.Not) || e != api.OK {
			t.Errorf("Holds(%+v): %v, %v", x, got, e)
		}
	}
}

// holdsNot asks for the error of a condition, and of its other one.
func holdsNot(t *testing.T, c api.Cond, state, given []api.Field, want api.Errno) {
	t.Helper()
	for _, x := range []api.Cond{c, not(c)} {
		if got, e := isHolds(t, x, "s", state, given); got || e != want {
			t.Errorf("Holds(%+v): %v, %v, not %v", x, got, e, want)
		}
	}
}

// The errors' numbers, the kinds and the limits.
func TestNumbers(t *testing.T) {
	for i, e := range []api.Errno{api.ErrRulesMany, api.ErrRulesName, api.ErrRulesForm, api.ErrRulesField, api.ErrRulesType, api.ErrRulesRange, api.ErrRulesNone, api.ErrRulesNeeds} {
		if int(e) != 130+i {
			t.Errorf("%d, not %d", int(e), 130+i)
		}
	}
	for i, kind := range []int{api.EInt, api.EText, api.EState, api.EGiven, api.ESelf, api.EAdd, api.ESub, api.EMul, api.EJoin, api.ELen, api.EShow} {
		if kind != i+1 {
			t.Errorf("%d, not %d", kind, i+1)
		}
	}
	for i, kind := range []int{api.CSame, api.CLess, api.CMost, api.CHas} {
		if kind != i+1 {
			t.Errorf("%d, not %d", kind, i+1)
		}
	}
	for i, n := range []int{api.MaxHandlers, api.MaxCases, api.MaxParts, api.MaxExpr, api.MaxText, api.MaxNumber, api.MaxFields} {
		if n != []int{32, 16, 16, 64, 200, bound, 16}[i] {
			t.Errorf("limit %d: %d", i, n)
		}
	}
}
