package snapshot

import (
	"fmt"
	"math/big"
	"regexp"
	"slices"
	"strings"

	"cartulary/api"
)

// The plain ones: what the chapters say of a state, each as a whole, by means that the layers have not: lists are searched from their beginnings and changed in their place, integers have no bounds, errors are a false.

const bound = 1_000_000_000_000_000

// plainState is State of all events of a stream.
func plainState(r api.Rules, l []api.Upcast, stream string, events []api.Event) []api.Field {
	var state []api.Field
	for _, e := range events {
		state = plainFold(r, stream, state, plainApply(l, e))
	}
	return state
}

func plainAt(l []api.Field, name string) int {
	return slices.IndexFunc(l, func(f api.Field) bool { return f.Name == name })
}

// plainPut puts a field in the place of the first one of its name, or ahead of the first one whose name is above it.
func plainPut(l []api.Field, f api.Field) []api.Field {
	if at := plainAt(l, f.Name); at >= 0 {
		l[at] = f
		return l
	}
	at := slices.IndexFunc(l, func(x api.Field) bool { return x.Name > f.Name })
	if at < 0 {
		at = len(l)
	}
	return slices.Insert(l, at, f)
}

func plainCut(l []api.Field, name string) []api.Field {
	if at := plainAt(l, name); at >= 0 {
		return slices.Delete(l, at, at+1)
	}
	return l
}

// plainFold is rules.Fold.
func plainFold(r api.Rules, stream string, state []api.Field, e api.Event) []api.Field {
	for _, v := range r.Evolves {
		if v.Type != e.Type {
			continue
		}
		next := slices.Clone(state)
		for _, a := range v.Sets {
			f, ok := plainEval(a.E, stream, state, e.Fields)
			if f.Name = a.Name; ok && (len(next) < 16 || len(next) == 16 && plainAt(next, a.Name) >= 0) {
				next = plainPut(next, f)
			}
		}
		for _, name := range v.Drops {
			next = plainCut(next, name)
		}
		return next
	}
	return state
}

func plainNodes(e api.Expr) int {
	n := 1
	for _, a := range e.Args {
		n += plainNodes(a)
	}
	return n
}

// plainForm tells whether kinds and numbers of Args are right.
func plainForm(e api.Expr) bool {
	args := []int{-1, 0, 0, 0, 0, 0, 2, 2, 2, 2, 1, 1}
	return e.Kind >= 1 && e.Kind <= 11 && len(e.Args) == args[e.Kind] && !slices.ContainsFunc(e.Args, func(a api.Expr) bool { return !plainForm(a) })
}

// plainEval is rules.Eval.
func plainEval(e api.Expr, stream string, state, given []api.Field) (api.Field, bool) {
	if plainNodes(e) > 64 || !plainForm(e) {
		return api.Field{}, false
	}
	return plainValue(e, stream, state, given)
}

func plainValue(e api.Expr, stream string, state, given []api.Field) (api.Field, bool) {
	var l []api.Field
	for _, a := range e.Args {
		v, ok := plainValue(a, stream, state, given)
		if !ok || v.Text != (e.Kind == 9 || e.Kind == 10) {
			return api.Field{}, false
		}
		l = append(l, v)
	}
	switch e.Kind {
	case 1:
		return api.Field{N: e.N}, true
	case 2:
		return api.Field{Text: true, S: e.S}, true
	case 3, 4:
		fields := map[int][]api.Field{3: state, 4: given}[e.Kind]
		at := plainAt(fields, e.S)
		if at < 0 {
			return api.Field{}, false
		}
		f := fields[at]
		f.Name = ""
		return f, true
	case 5:
		return api.Field{Text: true, S: stream}, true
	case 9:
		s := strings.Join([]string{l[0].S, l[1].S}, "")
		return api.Field{Text: true, S: s}, len(s) <= 200
	case 10:
		return api.Field{N: len([]byte(l[0].S))}, true
	case 11:
		return api.Field{Text: true, S: fmt.Sprintf("%d", l[0].N)}, true
	}
	x, y, z := big.NewInt(int64(l[0].N)), big.NewInt(int64(l[1].N)), new(big.Int)
	map[int]func(x, y *big.Int) *big.Int{6: z.Add, 7: z.Sub, 8: z.Mul}[e.Kind](x, y)
	return api.Field{N: int(z.Int64())}, z.CmpAbs(big.NewInt(bound)) <= 0
}

// plainApply is upcast.Apply, one version after the other.
func plainApply(l []api.Upcast, e api.Event) api.Event {
	at := slices.IndexFunc(l, func(u api.Upcast) bool { return u.Type == e.Type && u.From == e.Version })
	if at < 0 {
		return e
	}
	fields := slices.Clone(e.Fields)
	for _, c := range l[at].Changes {
		fields = plainChange(fields, c)
	}
	return plainApply(l, api.Event{Type: e.Type, Version: e.Version + 1, Fields: fields})
}

// plainChange does a change to a list that is its own.
func plainChange(l []api.Field, c api.Change) []api.Field {
	at := plainAt(l, c.Name)
	switch {
	case c.Kind == 1 && plainAt(l, c.F.Name) < 0 && len(l) <= 15:
		return plainPut(l, c.F)
	case at < 0:
	case c.Kind == 2:
		return slices.Delete(l, at, at+1)
	case c.Kind == 3 && plainAt(l, c.To) < 0:
		f := l[at]
		f.Name = c.To
		return plainPut(slices.Delete(l, at, at+1), f)
	case c.Kind == 4 && !l[at].Text:
		l[at] = api.Field{Name: c.Name, Text: true, S: fmt.Sprintf("%d", l[at].N)}
	case c.Kind == 5 && !l[at].Text:
		x, y, edge := big.NewInt(int64(l[at].N)), big.NewInt(int64(c.F.N)), big.NewInt(bound)
		z := new(big.Int).Mul(x, y)
		if x.CmpAbs(edge) <= 0 && y.CmpAbs(edge) <= 0 && z.CmpAbs(edge) <= 0 {
			l[at] = api.Field{Name: c.Name, N: int(z.Int64())}
		}
	}
	return l
}

var (
	aName   = regexp.MustCompile(`^[a-z][a-z0-9_]{0,31}$`)
	escaped = regexp.MustCompile(`[^-._~a-zA-Z0-9]`)
)

// plainRecord tells whether a state is a record.
func plainRecord(l []api.Field) bool {
	for i, f := range l {
		if !aName.MatchString(f.Name) || i > 0 && l[i-1].Name >= f.Name {
			return false
		}
		if f.Text && (f.N != 0 || len(f.S) > 200) || !f.Text && f.S != "" {
			return false
		}
	}
	return len(l) <= 16
}

// plainLong is how many bytes a record's text has.
func plainLong(l []api.Field) int {
	n := max(0, len(l)-1)
	for _, f := range l {
		n += len(f.Name) + 1
		if !f.Text {
			n += len(fmt.Sprint(f.N))
			continue
		}
		n += 1 + len(f.S)
		for i := range len(f.S) { // byte by byte: some are no letters of any kind
			if b := f.S[i]; b >= 128 || escaped.MatchString(string(rune(b))) {
				n += 2
			}
		}
	}
	return n
}
