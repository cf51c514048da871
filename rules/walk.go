package rules

import (
	"iter"

	"cartulary/api"
)

// cases are those of all handlers.
func cases(r api.Rules) iter.Seq[api.Case] {
	return func(yield func(api.Case) bool) {
		for _, h := range r.Handlers {
			for _, c := range h.Cases {
				if !yield(c) {
					return
				}
			}
		}
	}
}

// emits are those of all cases.
func emits(r api.Rules) iter.Seq[api.Emit] {
	return func(yield func(api.Emit) bool) {
		for c := range cases(r) {
			for _, m := range c.Emits {
				if !yield(m) {
					return
				}
			}
		}
	}
}

// conditions are those of all cases.
func conditions(r api.Rules) iter.Seq[api.Cond] {
	return func(yield func(api.Cond) bool) {
		for c := range cases(r) {
			for _, x := range c.When {
				if !yield(x) {
					return
				}
			}
		}
	}
}

// sets are those of all Emits and Evolves.
func sets(r api.Rules) iter.Seq[api.Assign] {
	return func(yield func(api.Assign) bool) {
		for m := range emits(r) {
			for _, a := range m.Sets {
				if !yield(a) {
					return
				}
			}
		}
		for _, v := range r.Evolves {
			for _, a := range v.Sets {
				if !yield(a) {
					return
				}
			}
		}
	}
}

// expressions are those of a table that are looked at: all but B of a CHas.
func expressions(r api.Rules) iter.Seq[api.Expr] {
	return func(yield func(api.Expr) bool) {
		for c := range conditions(r) {
			if !yield(c.A) || c.Kind != api.CHas && !yield(c.B) {
				return
			}
		}
		for a := range sets(r) {
			if !yield(a.E) {
				return
			}
		}
	}
}

// nodes are an expression's, each ahead of its Args; no more than one beyond MaxExpr, so that it ends also where an expression is a part of itself.
func nodes(e api.Expr) []api.Expr {
	l := []api.Expr{e}
	for i := 0; i < len(l); i++ {
		room := api.MaxExpr + 1 - len(l)
		l = append(l, l[i].Args[:min(room, len(l[i].Args))]...)
	}
	return l
}

// tooGreat tells whether an expression has more nodes than may be.
func tooGreat(e api.Expr) bool { return len(nodes(e)) > api.MaxExpr }

// wellFormed tells whether an expression is not too great, and each of its nodes has as many Args as its Kind.
func wellFormed(e api.Expr) bool {
	l := nodes(e)
	for _, x := range l {
		if len(x.Args) != argsOf(x.Kind) {
			return false
		}
	}
	return len(l) <= api.MaxExpr
}

// argsOf is how many Args a kind has: below 0, if there is no such kind.
func argsOf(kind int) int {
	switch kind {
	case api.EInt, api.EText, api.EState, api.EGiven, api.ESelf:
		return 0
	case api.ELen, api.EShow:
		return 1
	case api.EAdd, api.ESub, api.EMul, api.EJoin:
		return 2
	}
	return -1
}

// namesField tells whether an expression is a field's name.
func namesField(e api.Expr) bool { return e.Kind == api.EState || e.Kind == api.EGiven }
