package rules

import (
	"fmt"
	"math/rand"
	"slices"
	"strings"
	"testing"

	"cartulary/api"
	"cartulary/sheet"
)

// of is one of the things.
func of[T any](r *rand.Rand, l ...T) T { return l[r.Intn(len(l))] }

// in tells whether one of so many times is now.
func in(r *rand.Rand, n int) bool { return r.Intn(n) == 0 }

// names are few, so that they meet.
var names = []string{"a", "b", "c", "left", "n"}

// drawnInt is mostly small; some go to the edges.
func drawnInt(r *rand.Rand) int {
	if in(r, 4) {
		return of(r, edges()...)
	}
	return r.Intn(5) - 1
}

func drawnText(r *rand.Rand) string {
	return of(r, "", "", "a", "b", "ab", "1", "\x00\xff", strings.Repeat("x", 99), strings.Repeat("y", 200))
}

// drawnValue is a field's value that may be; its name is empty.
func drawnValue(r *rand.Rand, text bool) api.Field {
	if text {
		return text0(drawnText(r))
	}
	return int0(drawnInt(r))
}

// drawnRecord is a record. Most names go with a kind, so that not too much has the wrong one.
func drawnRecord(r *rand.Rand) (l []api.Field) {
	for i, name := range names {
		if in(r, 3) {
			continue
		}
		f := drawnValue(r, (i < 2) != in(r, 6))
		f.Name = name
		l = append(l, f)
	}
	if in(r, 4) { // so many that there is little room, or none
		l = append(l, record(of(r, 10, 11, 12, 13, 14, 15, 16))...)
		slices.SortFunc(l, func(a, b api.Field) int { return strings.Compare(a.Name, b.Name) })
		l = l[:min(len(l), 16)]
	}
	return l
}

// drawnList is a list of any fields: names that are there twice, that do not rise, that may not be; values that are of no kind.
func drawnList(r *rand.Rand) (l []api.Field) {
	if in(r, 2) {
		return drawnRecord(r)
	}
	for range of(r, 0, 1, 2, 3, 5, 8, 15, 16, 17, 20) {
		f := drawnValue(r, in(r, 2))
		f.Name = of(r, append([]string{"", "A", "\xff", "z", "f00", "f05"}, names...)...)
		switch r.Intn(12) {
		case 0:
			f.N = r.Intn(3)
		case 1:
			f.S = of(r, "x", strings.Repeat("x", 201))
		case 2:
			f.Text = !f.Text
		}
		l = append(l, f)
	}
	return l
}

// drawnExpr is an expression whose value is an integer or a text, if all fields are of the kinds that most have; of few nodes; seldom one of the wrong kind is within.
func drawnExpr(r *rand.Rand, text bool, depth int) api.Expr {
	if in(r, 25) {
		text = !text
	}
	if depth == 0 || in(r, 4) {
		return drawnLeaf(r, text)
	}
	if text {
		if in(r, 2) {
			return ex(api.EShow, drawnExpr(r, false, depth-1))
		}
		return ex(api.EJoin, drawnExpr(r, true, depth-1), drawnExpr(r, true, depth-1))
	}
	if in(r, 4) {
		return ex(api.ELen, drawnExpr(r, true, depth-1))
	}
	return ex(of(r, api.EAdd, api.ESub, api.EMul), drawnExpr(r, false, depth-1), drawnExpr(r, false, depth-1))
}

func drawnLeaf(r *rand.Rand, text bool) api.Expr {
	if text {
		return of(r, txt(drawnText(r)), self(), st(names[r.Intn(2)]), gv(names[r.Intn(2)]))
	}
	return of(r, num(drawnInt(r)), num(r.Intn(9)), st(names[2+r.Intn(3)]), gv(names[2+r.Intn(3)]))
}

// someDrawn is an expression of any kind, seldom one that is too great or of a wrong form.
func someDrawn(r *rand.Rand) api.Expr {
	e := drawnExpr(r, in(r, 2), of(r, 0, 0, 1, 1, 2, 3, 6))
	if in(r, 12) {
		spoilExpr(r, &e)
	}
	return e
}

// rightExpr is an expression of the right form; each second one has a value whatever the fields are.
func rightExpr(r *rand.Rand) api.Expr {
	if in(r, 2) {
		return of(r, num(drawnInt(r)), txt(drawnText(r)), self(), ex(api.EShow, num(drawnInt(r))), ex(api.ELen, self()))
	}
	return drawnExpr(r, in(r, 2), of(r, 0, 0, 1, 1, 2, 3)) // of at most 15 nodes
}

// spoilExpr changes one node, mostly to something wrong.
func spoilExpr(r *rand.Rand, e *api.Expr) {
	l := nodesIn(e)
	x := l[r.Intn(len(l))]
	switch r.Intn(6) {
	case 0:
		x.Kind = r.Intn(16) - 2
	case 1:
		x.Args = append(x.Args, num(1))
	case 2:
		if len(x.Args) > 0 {
			x.Args = x.Args[1:]
		}
	case 3:
		x.S = of(r, "", "A", "no name", strings.Repeat("x", 201))
	case 4:
		*x = of(r, st("NO"), gv(""), txt(strings.Repeat("x", 201)), api.Expr{})
	case 5:
		*x = broad(of(r, 61, 62, 63, 64, 65))
	}
}

// drawnCond is a condition of two values that are mostly of one kind.
func drawnCond(r *rand.Rand, expr func(r *rand.Rand) api.Expr) api.Cond {
	c := api.Cond{Kind: of(r, 1, 1, 2, 2, 3, 3, 4), Not: in(r, 2), A: expr(r), B: expr(r)}
	if c.Kind == api.CHas {
		c.A = of(r, st, gv)(of(r, names...))
	} else if in(r, 2) {
		c.A, c.B = drawnLeaf(r, false), drawnLeaf(r, false)
	}
	return c
}

// drawnTable is one that may be.
func drawnTable(r *rand.Rand) api.Rules {
	var t api.Rules
	for i := range of(r, 1, 2, 3) {
		h := api.Handler{Command: fmt.Sprint("do", i)}
		for j := range r.Intn(3) {
			h.Needs = append(h.Needs, api.Need{Name: names[j*2], Text: in(r, 2)})
		}
		for range r.Intn(5) {
			h.Cases = append(h.Cases, drawnCase(r))
		}
		t.Handlers = append(t.Handlers, h)
		v := api.Evolve{Type: fmt.Sprint("done", i)}
		for range r.Intn(6) {
			v.Sets = append(v.Sets, as(of(r, append(names, "f20", "g", "z")...), rightExpr(r)))
		}
		for range r.Intn(3) {
			v.Drops = append(v.Drops, of(r, names...))
		}
		t.Evolves = append(t.Evolves, v)
	}
	return t
}

func drawnCase(r *rand.Rand) api.Case {
	var c api.Case
	for range of(r, 0, 0, 1, 2) {
		c.When = append(c.When, drawnCond(r, rightExpr))
	}
	if in(r, 3) {
		c.Refuse = of(r, "why", "not", strings.Repeat("x", 200))
		return c
	}
	for range 1 + r.Intn(3) {
		m := api.Emit{Type: fmt.Sprint("done", r.Intn(3))}
		for _, i := range r.Perm(len(names))[:r.Intn(len(names)+1)] {
			m.Sets = append(m.Sets, as(names[i], rightExpr(r)))
		}
		c.Emits = append(c.Emits, m)
	}
	return c
}

// spoilTable changes one thing of a table, mostly to something wrong.
func spoilTable(r *rand.Rand, t *api.Rules) {
	switch r.Intn(9) {
	case 0:
		if l := allExprs(t); len(l) > 0 {
			spoilExpr(r, of(r, l...))
		}
	case 1:
		*of(r, namesIn(t)...) = of(r, "", "NO", strings.Repeat("a", 33), "a", "done0", "do0")
	case 2:
		if l := casesIn(t); len(l) > 0 {
			of(r, l...).Refuse = of(r, "", "x", strings.Repeat("x", 201))
		}
	case 3:
		if l := condsIn(t); len(l) > 0 {
			of(r, l...).Kind = r.Intn(8) - 1
		}
	case 4:
		if l := setLists(t); len(l) > 0 {
			*of(r, l...) = manySets(of(r, 0, 16, 17))
		}
	case 5:
		if l := emitLists(t); len(l) > 0 {
			*of(r, l...) = manyEmits(of(r, 0, 16, 17))
		}
	case 6:
		*of(r, needLists(t)...) = manyNeeds(of(r, 0, 16, 17))
	case 7:
		*of(r, dropLists(t)...) = manyDrops(of(r, 0, 16, 17))
	case 8:
		if l := whenLists(t); len(l) > 0 {
			*of(r, l...) = manyConds(of(r, 0, 16, 17))
		}
	}
}

// toldOften asks for each of these to have been told so often.
func toldOften(t *testing.T, told map[api.Errno]int, least int, l ...api.Errno) {
	t.Helper()
	for _, e := range l {
		if told[e] < least {
			t.Errorf("%v was told %d times", e, told[e])
		}
	}
}

// P13.2, P13.3: expressions and conditions that are drawn, also such as are wrong, with lists that are records and lists that are none.
func TestDrawnValues(t *testing.T) {
	r := rand.New(rand.NewSource(1))
	evals, conds, so := map[api.Errno]int{}, map[api.Errno]int{}, [2]int{}
	for range 50000 {
		state, given, stream := drawnList(r), drawnList(r), of(r, "", "s", "acc", strings.Repeat("s", 201))
		_, e := isEval(t, someDrawn(r), stream, state, given)
		evals[e]++
		c := drawnCond(r, someDrawn)
		if in(r, 10) {
			c.Kind = r.Intn(8) - 1
		}
		if in(r, 20) {
			c.A = someDrawn(r)
		}
		got, e := isHolds(t, c, stream, state, given)
		conds[e]++
		if got {
			so[1]++
		} else if e == api.OK {
			so[0]++
		}
	}
	toldOften(t, evals, 500, api.OK, api.ErrRulesForm, api.ErrRulesField, api.ErrRulesType, api.ErrRulesRange)
	toldOften(t, conds, 500, api.OK, api.ErrRulesForm, api.ErrRulesField, api.ErrRulesType, api.ErrRulesRange)
	if so[0] < 5000 || so[1] < 5000 {
		t.Errorf("%v", so)
	}
}

// P13.1: tables that are drawn, and such as are spoilt once or more often.
func TestDrawnTables(t *testing.T) {
	r := rand.New(rand.NewSource(2))
	told := map[api.Errno]int{}
	for range 8000 {
		x := drawnTable(r)
		isCheck(t, x, api.OK)
		for range 1 + r.Intn(3) {
			spoilTable(r, &x)
			isCheck(t, x, plainCheck(x))
			told[Check(x)]++
		}
	}
	toldOften(t, told, 500, api.OK, api.ErrRulesMany, api.ErrRulesName, api.ErrRulesForm)
}

// drawnGiven are mostly the fields that the first handler of a command must have.
func drawnGiven(r *rand.Rand, x api.Rules, command string) []api.Field {
	if in(r, 8) {
		return drawnList(r)
	}
	var l []api.Field
	for _, h := range x.Handlers {
		if h.Command != command {
			continue
		}
		for _, n := range h.Needs {
			f := drawnValue(r, n.Text != in(r, 20))
			f.Name = n.Name
			l = append(l, f)
		}
		break
	}
	return l
}

// P13.4, P13.5: what is decided and folded by tables that are drawn, also such as Check does not take, with any lists.
func TestDrawnDecisions(t *testing.T) {
	r := rand.New(rand.NewSource(3))
	told, refused, emitted, changed := map[api.Errno]int{}, 0, 0, 0
	for range 40000 {
		x := drawnTable(r)
		for range of(r, 0, 1, 3, 9) {
			spoilTable(r, &x)
		}
		state, stream := drawnList(r), of(r, "s", "", strings.Repeat("s", 201))
		command := of(r, "do0", "do0", "do1", "do2", "")
		d, e := isDecide(t, x, stream, state, command, drawnGiven(r, x, command))
		told[e]++
		switch {
		case d.Refused:
			refused++
		case len(d.Events) > 0:
			emitted++
		}
		next := isFold(t, x, stream, state, api.Event{Type: of(r, "done0", "done1", "done2", "a", ""), Version: r.Intn(3), Fields: drawnList(r)})
		if !slices.Equal(next, state) {
			changed++
		}
	}
	toldOften(t, told, 200, api.OK, api.ErrRulesForm, api.ErrRulesField, api.ErrRulesType, api.ErrRulesRange, api.ErrRulesNone, api.ErrRulesNeeds)
	if refused < 3000 || emitted < 1000 || changed < 3000 {
		t.Errorf("%d refused, %d emitted, %d changed", refused, emitted, changed)
	}
}

// P13.6: of a table that Check takes, a state and given fields that are records, and a stream's name: Fold's answer is a record, and so are the fields of all events.
func TestDrawnRecords(t *testing.T) {
	r := rand.New(rand.NewSource(4))
	events, full := 0, 0
	for range 20000 {
		x := drawnTable(r)
		if in(r, 3) {
			spoilTable(r, &x)
		}
		if Check(x) != api.OK {
			continue
		}
		stream, state := of(r, "s", strings.Repeat("\xff", 60)), drawnRecord(r)
		for i := range 5 {
			d, _ := Decide(x, stream, state, fmt.Sprint("do", i%3), drawnGiven(r, x, fmt.Sprint("do", i%3)))
			for _, e := range append(d.Events, api.Event{Type: fmt.Sprint("done", i%3), Fields: drawnRecord(r)}) {
				isRecord(t, e.Fields)
				if e.Version != 0 {
					t.Fatalf("%+v", e)
				}
				state = isFold(t, x, stream, state, e)
				isRecord(t, state)
				events++
				if len(state) == 16 {
					full++
				}
			}
		}
	}
	if events < 50000 || full < 1000 {
		t.Errorf("%d events, %d full", events, full)
	}
}

func isRecord(t *testing.T, l []api.Field) {
	t.Helper()
	if e := sheet.Check(l); e != api.OK {
		t.Fatalf("%v: %+v", e, l)
	}
}
