package project

import (
	"slices"

	"cartulary/api"
	"cartulary/rules"
)

// refused tells whether an expression may not be a projection's: there is no state that it could be of.
func refused(e api.Expr) bool {
	alone := api.Evolve{Type: "x", Sets: []api.Assign{{Name: "x", E: e}}}
	return rules.Check(api.Rules{Evolves: []api.Evolve{alone}}) != api.OK || namesState(e)
}

// namesState tells whether a part of an expression is a field of a state. It is asked of such alone as rules takes, which end.
func namesState(e api.Expr) bool {
	return e.Kind == api.EState || slices.ContainsFunc(e.Args, namesState)
}

// wellFormed tells whether an expression may have a value: of one that is not of the right form rules never tells one.
func wellFormed(e api.Expr) bool {
	_, wrong := rules.Eval(e, "", nil, nil)
	return wrong != api.ErrRulesForm
}
