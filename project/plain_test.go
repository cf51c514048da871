package project

import (
	"fmt"
	"math/big"
	"regexp"
	"slices"
	"strings"

	"cartulary/api"
)

// The plain ones: what the chapters say of a projection, each as a whole, by means that the layers have not: lists are searched from their beginnings and changed in their place, integers have no bounds, errors are a false.

const bound = 1_000_000_000_000_000

// plainRows are the rows that entries come to.
func plainRows(p api.Projection, l []api.Upcast, entries []api.Entry) []api.Row {
	var rows []api.Row
	for _, x := range entries {
		e := plainApply(l, x.Event)
		for _, s := range p.Sums {
			if s.Type != x.Event.Type {
				continue
			}
			key, ok := plainEval(s.Key, x.Stream, nil, e.Fields)
			add, is := plainEval(s.Add, x.Stream, nil, e.Fields)
			if !ok || !is || add.Text {
				continue
			}
			text := fmt.Sprintf("%d", key.N)
			if key.Text {
				text = key.S
			}
			rows = plainAdd(rows, text, add.N)
		}
	}
	slices.SortFunc(rows, func(a, b api.Row) int { return slices.Compare([]byte(a.Key), []byte(b.Key)) })
	return rows
}

// plainAdd adds to a row of a list in any order.
func plainAdd(rows []api.Row, key string, n int) []api.Row {
	if !plainBounds(big.NewInt(int64(n))) || len(key) >= 201 {
		return rows
	}
	for i, r := range rows {
		if r.Key == key {
			if sum := new(big.Int).Add(big.NewInt(int64(r.N)), big.NewInt(int64(n))); plainBounds(sum) {
				rows[i].N = int(sum.Int64())
			}
			return rows
		}
	}
	if len(rows) >= 200 {
		return rows
	}
	return append(rows, api.Row{Key: key, N: n})
}

func plainBounds(n *big.Int) bool { return n.CmpAbs(big.NewInt(bound)) <= 0 }

func plainAt(l []api.Field, name string) int {
	return slices.IndexFunc(l, func(f api.Field) bool { return f.Name == name })
}

// plainPut puts a field in the place of the first one of its name, or ahead of the first one whose name is above it.
func plainPut(l []api.Field, f api.Field) []api.Field {
	if at := plainAt(l, f.Name); at >= 0 {
		l[at] = f
		return l
	}
	at := slices.IndexFunc(l, func(x api.Field) bool { return x.Name > f.Name })
	if at < 0 {
		at = len(l)
	}
	return slices.Insert(l, at, f)
}

func plainNodes(e api.Expr) int {
	n := 1
	for _, a := range e.Args {
		n += plainNodes(a)
	}
	return n
}

// plainForm tells whether kinds and numbers of Args are right.
func plainForm(e api.Expr) bool {
	args := []int{-1, 0, 0, 0, 0, 0, 2, 2, 2, 2, 1, 1}
	return e.Kind >= 1 && e.Kind <= 11 && len(e.Args) == args[e.Kind] && !slices.ContainsFunc(e.Args, func(a api.Expr) bool { return !plainForm(a) })
}

// plainEval is rules.Eval.
func plainEval(e api.Expr, stream string, state, given []api.Field) (api.Field, bool) {
	if plainNodes(e) > 64 || !plainForm(e) {
		return api.Field{}, false
	}
	return plainValue(e, stream, state, given)
}

func plainValue(e api.Expr, stream string, state, given []api.Field) (api.Field, bool) {
	var l []api.Field
	for _, a := range e.Args {
		v, ok := plainValue(a, stream, state, given)
		if !ok || v.Text != (e.Kind == 9 || e.Kind == 10) {
			return api.Field{}, false
		}
		l = append(l, v)
	}
	switch e.Kind {
	case 1:
		return api.Field{N: e.N}, true
	case 2:
		return api.Field{Text: true, S: e.S}, true
	case 3, 4:
		fields := map[int][]api.Field{3: state, 4: given}[e.Kind]
		at := plainAt(fields, e.S)
		if at < 0 {
			return api.Field{}, false
		}
		f := fields[at]
		f.Name = ""
		return f, true
	case 5:
		return api.Field{Text: true, S: stream}, true
	case 9:
		s := strings.Join([]string{l[0].S, l[1].S}, "")
		return api.Field{Text: true, S: s}, len(s) <= 200
	case 10:
		return api.Field{N: len([]byte(l[0].S))}, true
	case 11:
		return api.Field{Text: true, S: fmt.Sprintf("%d", l[0].N)}, true
	}
	x, y, z := big.NewInt(int64(l[0].N)), big.NewInt(int64(l[1].N)), new(big.Int)
	map[int]func(x, y *big.Int) *big.Int{6: z.Add, 7: z.Sub, 8: z.Mul}[e.Kind](x, y)
	return api.Field{N: int(z.Int64())}, plainBounds(z)
}

// plainApply is upcast.Apply, one version after the other.
func plainApply(l []api.Upcast, e api.Event) api.Event {
	at := slices.IndexFunc(l, func(u api.Upcast) bool { return u.Type == e.Type && u.From == e.Version })
	if at < 0 {
		return e
	}
	fields := slices.Clone(e.Fields)
	for _, c := range l[at].Changes {
		fields = plainChange(fields, c)
	}
	return plainApply(l, api.Event{Type: e.Type, Version: e.Version + 1, Fields: fields})
}

// plainChange does a change to a list that is its own.
func plainChange(l []api.Field, c api.Change) []api.Field {
	at := plainAt(l, c.Name)
	switch {
	case c.Kind == 1 && plainAt(l, c.F.Name) < 0 && len(l) <= 15:
		return plainPut(l, c.F)
	case at < 0:
	case c.Kind == 2:
		return slices.Delete(l, at, at+1)
	case c.Kind == 3 && plainAt(l, c.To) < 0:
		f := l[at]
		f.Name = c.To
		return plainPut(slices.Delete(l, at, at+1), f)
	case c.Kind == 4 && !l[at].Text:
		l[at] = api.Field{Name: c.Name, Text: true, S: fmt.Sprintf("%d", l[at].N)}
	case c.Kind == 5 && !l[at].Text:
		x, y := big.NewInt(int64(l[at].N)), big.NewInt(int64(c.F.N))
		if z := new(big.Int).Mul(x, y); plainBounds(x) && plainBounds(y) && plainBounds(z) {
			l[at] = api.Field{Name: c.Name, N: int(z.Int64())}
		}
	}
	return l
}

var aName = regexp.MustCompile(`^[a-z][a-z0-9_]{0,31}$`)

// plainCheck is Check.
func plainCheck(p api.Projection) api.Errno {
	if !aName.MatchString(p.Name) || len(p.Name) >= 21 {
		return 170
	}
	if len(p.Sums) >= 17 {
		return 171
	}
	for _, s := range p.Sums {
		if !aName.MatchString(s.Type) {
			return 170
		}
		if !plainMayBe(s.Key) || !plainMayBe(s.Add) {
			return 172
		}
	}
	return 0
}

// plainMayBe tells whether an expression may be a projection's.
func plainMayBe(e api.Expr) bool { return plainNodes(e) <= 64 && plainForm(e) && plainParts(e) }

// plainParts tells whether each part of an expression of the right form may be.
func plainParts(e api.Expr) bool {
	if e.Kind == 2 && len(e.S) >= 201 || e.Kind == 3 || e.Kind == 4 && !aName.MatchString(e.S) {
		return false
	}
	for _, a := range e.Args {
		if !plainParts(a) {
			return false
		}
	}
	return true
}
