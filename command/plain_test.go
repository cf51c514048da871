package command

import (
	"fmt"
	"math/big"
	"slices"
	"strings"

	"cartulary/api"
)

// The plain ones: what the chapters say of rules, upcasters and states, each as a whole, by means that the layers have not: errors are answered, integers have no bounds, lists are searched from their beginnings.

const bound = 1_000_000_000_000_000

// plainState is snapshot.State of all events of a stream.
func plainState(r api.Rules, l []api.Upcast, stream string, events []api.Event) []api.Field {
	var state []api.Field
	for _, e := range events {
		state = plainFold(r, stream, state, plainApply(l, e))
	}
	return state
}

func plainAt(l []api.Field, name string) int {
	return slices.IndexFunc(l, func(f api.Field) bool { return f.Name == name })
}

// plainSet puts a field in the place of the first one of its name, or ahead of the first one whose name is above it.
func plainSet(l []api.Field, f api.Field) []api.Field {
	l = slices.Clone(l)
	if at := plainAt(l, f.Name); at >= 0 {
		l[at] = f
		return l
	}
	at := slices.IndexFunc(l, func(x api.Field) bool { return x.Name > f.Name })
	if at < 0 {
		at = len(l)
	}
	return slices.Insert(l, at, f)
}

func plainDrop(l []api.Field, name string) []api.Field {
	if at := plainAt(l, name); at >= 0 {
		return slices.Delete(slices.Clone(l), at, at+1)
	}
	return l
}

func plainNodes(e api.Expr) int {
	n := 1
	for _, a := range e.Args {
		n += plainNodes(a)
	}
	return n
}

// plainForm tells whether kinds and numbers of Args are right.
func plainForm(e api.Expr) bool {
	args := []int{-1, 0, 0, 0, 0, 0, 2, 2, 2, 2, 1, 1}
	return e.Kind >= 1 && e.Kind <= 11 && len(e.Args) == args[e.Kind] && !slices.ContainsFunc(e.Args, func(a api.Expr) bool { return !plainForm(a) })
}

// plainEval is rules.Eval.
func plainEval(e api.Expr, stream string, state, given []api.Field) (api.Field, api.Errno) {
	if plainNodes(e) > 64 || !plainForm(e) {
		return api.Field{}, 132
	}
	return plainValue(e, stream, state, given)
}

func plainValue(e api.Expr, stream string, state, given []api.Field) (api.Field, api.Errno) {
	var l []api.Field
	for _, a := range e.Args {
		v, wrong := plainValue(a, stream, state, given)
		if wrong != 0 {
			return api.Field{}, wrong
		}
		l = append(l, v)
	}
	for _, v := range l {
		if v.Text != (e.Kind == 9 || e.Kind == 10) {
			return api.Field{}, 134
		}
	}
	switch e.Kind {
	case 1:
		return api.Field{N: e.N}, 0
	case 2:
		return api.Field{Text: true, S: e.S}, 0
	case 3, 4:
		fields := map[int][]api.Field{3: state, 4: given}[e.Kind]
		at := plainAt(fields, e.S)
		if at < 0 {
			return api.Field{}, 133
		}
		f := fields[at]
		f.Name = ""
		return f, 0
	case 5:
		return api.Field{Text: true, S: stream}, 0
	case 9:
		return plainJoin(l[0].S, l[1].S)
	case 10:
		return api.Field{N: len([]byte(l[0].S))}, 0
	case 11:
		return api.Field{Text: true, S: fmt.Sprintf("%d", l[0].N)}, 0
	}
	return plainSum(e.Kind, l[0].N, l[1].N)
}

func plainJoin(a, b string) (api.Field, api.Errno) {
	s := strings.Join([]string{a, b}, "")
	if len(s) > 200 {
		return api.Field{}, 135
	}
	return api.Field{Text: true, S: s}, 0
}

func plainSum(kind, a, b int) (api.Field, api.Errno) {
	z := new(big.Int)
	map[int]func(x, y *big.Int) *big.Int{6: z.Add, 7: z.Sub, 8: z.Mul}[kind](big.NewInt(int64(a)), big.NewInt(int64(b)))
	if z.CmpAbs(big.NewInt(bound)) > 0 {
		return api.Field{}, 135
	}
	return api.Field{N: int(z.Int64())}, 0
}

// plainHolds is rules.Holds.
func plainHolds(c api.Cond, stream string, state, given []api.Field) (bool, api.Errno) {
	if c.Kind < 1 || c.Kind > 4 || c.Kind == 4 && c.A.Kind != 3 && c.A.Kind != 4 {
		return false, 132
	}
	if c.Kind == 4 {
		l := map[int][]api.Field{3: state, 4: given}[c.A.Kind]
		return plainAt(l, c.A.S) >= 0 == !c.Not, 0
	}
	a, wrong := plainEval(c.A, stream, state, given)
	if wrong != 0 {
		return false, wrong
	}
	b, wrong := plainEval(c.B, stream, state, given)
	if wrong != 0 {
		return false, wrong
	}
	if c.Kind == 1 {
		return fmt.Sprintf("%#v", a) == fmt.Sprintf("%#v", b) == !c.Not, 0
	}
	if a.Text != b.Text {
		return false, 134
	}
	less, same := a.N < b.N, a.N == b.N
	if a.Text {
		less, same = a.S < b.S, a.S == b.S
	}
	return (less || same && c.Kind == 3) == !c.Not, 0
}

// plainDecide is rules.Decide.
func plainDecide(r api.Rules, stream string, state []api.Field, command string, given []api.Field) (api.Decision, api.Errno) {
	at := slices.IndexFunc(r.Handlers, func(h api.Handler) bool { return h.Command == command })
	if at < 0 {
		return api.Decision{}, 136
	}
	h := r.Handlers[at]
	for _, n := range h.Needs {
		if i := plainAt(given, n.Name); i < 0 || given[i].Text != n.Text {
			return api.Decision{}, 137
		}
	}
	if len(h.Needs) != len(given) {
		return api.Decision{}, 137
	}
	for _, c := range h.Cases {
		so, wrong := true, api.OK
		for i := 0; so && wrong == 0 && i < len(c.When); i++ {
			so, wrong = plainHolds(c.When[i], stream, state, given)
		}
		if wrong != 0 {
			return api.Decision{}, wrong
		}
		if so {
			return plainCase(c, stream, state, given)
		}
	}
	return api.Decision{Refused: true, Reason: "no case"}, 0
}

func plainCase(c api.Case, stream string, state, given []api.Field) (api.Decision, api.Errno) {
	if len(c.Emits) == 0 {
		return api.Decision{Refused: true, Reason: c.Refuse}, 0
	}
	var d api.Decision
	for _, m := range c.Emits {
		var fields []api.Field
		for _, a := range m.Sets {
			v, wrong := plainEval(a.E, stream, state, given)
			if wrong != 0 {
				return api.Decision{}, wrong
			}
			v.Name = a.Name
			fields = plainSet(fields, v)
		}
		d.Events = append(d.Events, api.Event{Type: m.Type, Fields: fields})
	}
	return d, 0
}

// plainFold is rules.Fold.
func plainFold(r api.Rules, stream string, state []api.Field, e api.Event) []api.Field {
	for _, v := range r.Evolves {
		if v.Type != e.Type {
			continue
		}
		next := slices.Clone(state)
		for _, a := range v.Sets {
			f, wrong := plainEval(a.E, stream, state, e.Fields)
			f.Name = a.Name
			if tried := plainSet(next, f); wrong == 0 && len(tried) <= 16 {
				next = tried
			}
		}
		for _, name := range v.Drops {
			next = plainDrop(next, name)
		}
		return next
	}
	return state
}

// plainLatest is upcast.Latest: it goes on as long as it is brought up.
func plainLatest(l []api.Upcast, kind string) int {
	return plainApply(l, api.Event{Type: kind}).Version
}

// plainApply is upcast.Apply, one version after the other.
func plainApply(l []api.Upcast, e api.Event) api.Event {
	at := slices.IndexFunc(l, func(u api.Upcast) bool { return u.Type == e.Type && u.From == e.Version })
	if at < 0 {
		return e
	}
	fields := slices.Clone(e.Fields)
	for _, c := range l[at].Changes {
		fields = plainChange(fields, c)
	}
	return plainApply(l, api.Event{Type: e.Type, Version: e.Version + 1, Fields: fields})
}

// plainChange does a change to a list.
func plainChange(l []api.Field, c api.Change) []api.Field {
	at := plainAt(l, c.Name)
	switch {
	case c.Kind == 1 && plainAt(l, c.F.Name) < 0 && len(l) <= 15:
		return plainSet(l, c.F)
	case at < 0:
	case c.Kind == 2:
		return plainDrop(l, c.Name)
	case c.Kind == 3 && plainAt(l, c.To) < 0:
		f := l[at]
		f.Name = c.To
		return plainSet(plainDrop(l, c.Name), f)
	case c.Kind == 4 && !l[at].Text:
		return plainSet(l, api.Field{Name: c.Name, Text: true, S: fmt.Sprintf("%d", l[at].N)})
	case c.Kind == 5 && !l[at].Text:
		x, y, edge := big.NewInt(int64(l[at].N)), big.NewInt(int64(c.F.N)), big.NewInt(bound)
		if z := new(big.Int).Mul(x, y); x.CmpAbs(edge) <= 0 && y.CmpAbs(edge) <= 0 && z.CmpAbs(edge) <= 0 {
			return plainSet(l, api.Field{Name: c.Name, N: int(z.Int64())})
		}
	}
	return l
}
