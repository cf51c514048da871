package project

import (
	"maps"
	"slices"
	"strconv"
	"strings"

	"cartulary/api"
	"cartulary/rules"
	"cartulary/upcast"
)

// state is what a view knows.
type state struct {
	name    string
	sums    []api.Sum
	upcasts []api.Upcast
	taken
}

// taken is what has come of the events that were taken. It is what is saved.
type taken struct {
	cursor int
	rows   map[string]int
}

// begin is the state of a view of no events.
func begin(p api.Projection, l []api.Upcast) *state {
	return &state{
		name:    strings.Clone(p.Name),
		sums:    sumsApart(p.Sums),
		upcasts: each(l, upcastApart),
		taken:   taken{rows: map[string]int{}},
	}
}

// take takes the event whose place is the cursor.
func (s *state) take(x api.Entry) {
	s.cursor++
	e := upcast.Apply(s.upcasts, x.Event)
	for _, sum := range s.sums {
		if sum.Type == e.Type {
			s.fold(sum, x.Stream, e.Fields)
		}
	}
}

// fold does with an event's fields what a sum says.
func (s *state) fold(sum api.Sum, stream string, given []api.Field) {
	key, e := rules.Eval(sum.Key, stream, nil, given)
	if e != api.OK {
		return
	}
	add, e := rules.Eval(sum.Add, stream, nil, given)
	if e != api.OK || add.Text {
		return
	}
	s.add(keyText(key), add.N)
}

// keyText is the key that a value is.
func keyText(v api.Field) string {
	if v.Text {
		return v.S
	}
	return strconv.Itoa(v.N)
}

// add adds to the row of a key, if that may be. A key may be a piece of what was handed in, so a copy of it is kept.
func (s *state) add(key string, n int) {
	was, there := s.rows[key]
	switch {
	case len(key) > api.MaxText:
	case !there && len(s.rows) >= api.MaxRows:
	case !inBounds(n) || !inBounds(was+n):
	default:
		s.rows[strings.Clone(key)] = was + n
	}
}

func inBounds(n int) bool { return -api.MaxNumber <= n && n <= api.MaxNumber }

// list is all rows, by their keys.
func (t taken) list() []api.Row {
	l := make([]api.Row, 0, len(t.rows))
	for _, key := range slices.Sorted(maps.Keys(t.rows)) {
		l = append(l, api.Row{Key: key, N: t.rows[key]})
	}
	return l
}
