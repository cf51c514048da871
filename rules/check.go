package rules

import (
	"slices"

	"cartulary/api"
	"cartulary/sheet"
)

// tooMany tells whether there is more of anything than may be.
func tooMany(r api.Rules) bool {
	if len(r.Handlers) > api.MaxHandlers || len(r.Evolves) > api.MaxHandlers {
		return true
	}
	for _, h := range r.Handlers {
		if len(h.Needs) > api.MaxParts || len(h.Cases) > api.MaxCases {
			return true
		}
	}
	for c := range cases(r) {
		if len(c.When) > api.MaxParts || len(c.Emits) > api.MaxParts {
			return true
		}
	}
	for m := range emits(r) {
		if len(m.Sets) > api.MaxParts {
			return true
		}
	}
	for _, v := range r.Evolves {
		if len(v.Sets) > api.MaxParts || len(v.Drops) > api.MaxParts {
			return true
		}
	}
	for e := range expressions(r) {
		if tooGreat(e) {
			return true
		}
	}
	return false
}

// misnamed tells whether a name may not be, or is there twice where it may not.
func misnamed(r api.Rules) bool {
	if !apart(r.Handlers, func(h api.Handler) string { return h.Command }) {
		return true
	}
	if !apart(r.Evolves, func(v api.Evolve) string { return v.Type }) {
		return true
	}
	for _, h := range r.Handlers {
		if !apart(h.Needs, func(n api.Need) string { return n.Name }) {
			return true
		}
	}
	for m := range emits(r) {
		if !sheet.Name(m.Type) || !apart(m.Sets, func(a api.Assign) string { return a.Name }) {
			return true
		}
	}
	for _, v := range r.Evolves {
		if slices.ContainsFunc(v.Sets, func(a api.Assign) bool { return !sheet.Name(a.Name) }) {
			return true
		}
		if slices.ContainsFunc(v.Drops, func(name string) bool { return !sheet.Name(name) }) {
			return true
		}
	}
	for e := range expressions(r) {
		if slices.ContainsFunc(nodes(e), func(x api.Expr) bool { return namesField(x) && !sheet.Name(x.S) }) {
			return true
		}
	}
	return false
}

// apart tells whether all names in a list may be, and no two are the same.
func apart[T any](l []T, name func(x T) string) bool {
	seen := map[string]struct{}{}
	for _, x := range l {
		n := name(x)
		if _, twice := seen[n]; twice || !sheet.Name(n) {
			return false
		}
		seen[n] = struct{}{}
	}
	return true
}

// misformed tells whether a case, a condition or an expression is not as it must be.
func misformed(r api.Rules) bool {
	for c := range cases(r) {
		if len(c.Refuse) > api.MaxText || (c.Refuse == "") == (len(c.Emits) == 0) {
			return true
		}
	}
	for c := range conditions(r) {
		if c.Kind < api.CSame || c.Kind > api.CHas || c.Kind == api.CHas && !namesField(c.A) {
			return true
		}
	}
	for e := range expressions(r) {
		if !wellFormed(e) {
			return true
		}
		if slices.ContainsFunc(nodes(e), func(x api.Expr) bool { return x.Kind == api.EText && len(x.S) > api.MaxText }) {
			return true
		}
	}
	return false
}
