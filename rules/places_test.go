package rules

import (
	"fmt"

	"cartulary/api"
)

// table is one that may be, in which all things stand, each at its beginning, in its middle and at its end; all of it is new.
func table() api.Rules {
	var r api.Rules
	for h := range 3 {
		handler := api.Handler{Command: fmt.Sprint("do", h), Needs: []api.Need{{Name: "n"}, {Name: "s", Text: true}, {Name: "u"}}}
		for c := range 3 {
			handler.Cases = append(handler.Cases, someCase(c == h))
		}
		r.Handlers = append(r.Handlers, handler)
		r.Evolves = append(r.Evolves, api.Evolve{Type: fmt.Sprint("done", h), Sets: someSets(), Drops: []string{"x", "y", "x"}})
	}
	return r
}

// someCase is a case that refuses, or one that emits.
func someCase(refuses bool) api.Case {
	c := api.Case{When: []api.Cond{
		when(api.CSame, someExpr(), someExpr()),
		{Kind: api.CHas, A: st("left"), B: api.Expr{Kind: -1}},
		{Kind: api.CLess, Not: true, A: someExpr(), B: someExpr()},
		when(api.CMost, someExpr(), someExpr()),
		{Kind: api.CHas, A: gv("n"), B: st("NO NAME")},
	}}
	if refuses {
		c.Refuse = "why"
		return c
	}
	for m := range 3 {
		c.Emits = append(c.Emits, api.Emit{Type: fmt.Sprint("done", m/2), Sets: someSets()})
	}
	return c
}

func someSets() []api.Assign {
	return []api.Assign{as("a", someExpr()), as("left", ex(api.ESub, st("left"), gv("n"))), as("b", txt("b"))}
}

// someExpr has each kind of a node.
func someExpr() api.Expr {
	long := ex(api.EJoin, ex(api.EShow, ex(api.EMul, num(2), gv("n"))), ex(api.EJoin, self(), txt("x")))
	return ex(api.EAdd, ex(api.ELen, long), ex(api.ESub, st("left"), num(1)))
}

// The places in a table at which things of a kind stand, in their order.

func caseLists(r *api.Rules) (l []*[]api.Case) {
	for i := range r.Handlers {
		l = append(l, &r.Handlers[i].Cases)
	}
	return l
}

func needLists(r *api.Rules) (l []*[]api.Need) {
	for i := range r.Handlers {
		l = append(l, &r.Handlers[i].Needs)
	}
	return l
}

func casesIn(r *api.Rules) (l []*api.Case) {
	for _, p := range caseLists(r) {
		for i := range *p {
			l = append(l, &(*p)[i])
		}
	}
	return l
}

func whenLists(r *api.Rules) (l []*[]api.Cond) {
	for _, p := range casesIn(r) {
		l = append(l, &p.When)
	}
	return l
}

func condsIn(r *api.Rules) (l []*api.Cond) {
	for _, p := range whenLists(r) {
		for i := range *p {
			l = append(l, &(*p)[i])
		}
	}
	return l
}

// emitLists are those of cases that have Emits.
func emitLists(r *api.Rules) (l []*[]api.Emit) {
	for _, p := range casesIn(r) {
		if len(p.Emits) > 0 {
			l = append(l, &p.Emits)
		}
	}
	return l
}

func emitsIn(r *api.Rules) (l []*api.Emit) {
	for _, p := range emitLists(r) {
		for i := range *p {
			l = append(l, &(*p)[i])
		}
	}
	return l
}

func emitSets(r *api.Rules) (l []*[]api.Assign) {
	for _, p := range emitsIn(r) {
		l = append(l, &p.Sets)
	}
	return l
}

func evolveSets(r *api.Rules) (l []*[]api.Assign) {
	for i := range r.Evolves {
		l = append(l, &r.Evolves[i].Sets)
	}
	return l
}

func dropLists(r *api.Rules) (l []*[]string) {
	for i := range r.Evolves {
		l = append(l, &r.Evolves[i].Drops)
	}
	return l
}

func setLists(r *api.Rules) []*[]api.Assign { return append(emitSets(r), evolveSets(r)...) }

// freeExprs are the expressions that may be of any kind: not those of a CHas.
func freeExprs(r *api.Rules) (l []*api.Expr) {
	for _, p := range condsIn(r) {
		if p.Kind != api.CHas {
			l = append(l, &p.A, &p.B)
		}
	}
	for _, p := range setLists(r) {
		for i := range *p {
			l = append(l, &(*p)[i].E)
		}
	}
	return l
}

// hasExprs are each A of a CHas.
func hasExprs(r *api.Rules) (l []*api.Expr) {
	for _, p := range condsIn(r) {
		if p.Kind == api.CHas {
			l = append(l, &p.A)
		}
	}
	return l
}

// allExprs are those at which Check looks.
func allExprs(r *api.Rules) []*api.Expr { return append(freeExprs(r), hasExprs(r)...) }

// nodesIn are all nodes of an expression, deep ones too.
func nodesIn(e *api.Expr) []*api.Expr {
	l := []*api.Expr{e}
	for i := range e.Args {
		l = append(l, nodesIn(&e.Args[i])...)
	}
	return l
}

// namesIn are all names.
func namesIn(r *api.Rules) (l []*string) {
	for i := range r.Handlers {
		l = append(l, &r.Handlers[i].Command)
		for j := range r.Handlers[i].Needs {
			l = append(l, &r.Handlers[i].Needs[j].Name)
		}
	}
	for _, p := range emitsIn(r) {
		l = append(l, &p.Type)
	}
	for i := range r.Evolves {
		l = append(l, &r.Evolves[i].Type)
		for j := range r.Evolves[i].Drops {
			l = append(l, &r.Evolves[i].Drops[j])
		}
	}
	for _, p := range setLists(r) {
		for i := range *p {
			l = append(l, &(*p)[i].Name)
		}
	}
	for _, p := range allExprs(r) {
		for _, x := range nodesIn(p) {
			if x.Kind == api.EState || x.Kind == api.EGiven {
				l = append(l, &x.S)
			}
		}
	}
	return l
}

// Lists of so many things, of which no one is wrong.

func manyHandlers(n int) (l []api.Handler) {
	for i := range n {
		l = append(l, api.Handler{Command: fmt.Sprint("do", i)})
	}
	return l
}

func manyEvolves(n int) (l []api.Evolve) {
	for i := range n {
		l = append(l, api.Evolve{Type: fmt.Sprint("done", i)})
	}
	return l
}

func manyCases(n int) (l []api.Case) {
	for range n {
		l = append(l, api.Case{Refuse: "why"})
	}
	return l
}

func manyNeeds(n int) (l []api.Need) {
	for i := range n {
		l = append(l, api.Need{Name: fmt.Sprint("need", i), Text: i%2 == 0})
	}
	return l
}

func manyConds(n int) (l []api.Cond) {
	for range n {
		l = append(l, when(api.CSame, num(1), num(1)))
	}
	return l
}

func manyEmits(n int) (l []api.Emit) {
	for range n {
		l = append(l, api.Emit{Type: "done"})
	}
	return l
}

func manySets(n int) (l []api.Assign) {
	for i := range n {
		l = append(l, as(fmt.Sprint("set", i), num(i)))
	}
	return l
}

func manyDrops(n int) (l []string) {
	for range n {
		l = append(l, "drop")
	}
	return l
}
