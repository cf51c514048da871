package rules

import (
	"cmp"
	"strings"

	"cartulary/api"
	"cartulary/sheet"
)

// noCase is why a command is refused for which the table has no case.
const noCase = "no case"

// handlerOf is the first handler of a command.
func handlerOf(r api.Rules, command string) api.Handler {
	for _, h := range r.Handlers {
		if h.Command == command {
			return h
		}
	}
	panic(api.ErrRulesNone)
}

// need gives up, if a command has not just the fields that it must have.
func (s scope) need(l []api.Need) {
	if len(s.given) != len(l) {
		panic(api.ErrRulesNeeds)
	}
	for _, n := range l {
		if f, there := sheet.Get(s.given, n.Name); !there || f.Text != n.Text {
			panic(api.ErrRulesNeeds)
		}
	}
}

// decide is what the first case comes to of which all conditions hold.
func (s scope) decide(l []api.Case) api.Decision {
	for _, c := range l {
		if s.allHold(c.When) {
			return s.outcome(c)
		}
	}
	return api.Decision{Refused: true, Reason: noCase}
}

// allHold asks no further than up to the first condition that does not hold: those behind it may rely on it.
func (s scope) allHold(l []api.Cond) bool {
	for _, c := range l {
		if !s.holds(c) {
			return false
		}
	}
	return true
}

// outcome is what a case says.
func (s scope) outcome(c api.Case) api.Decision {
	if len(c.Emits) == 0 {
		return api.Decision{Refused: true, Reason: c.Refuse}
	}
	events := make([]api.Event, 0, len(c.Emits))
	for _, m := range c.Emits {
		events = append(events, s.event(m))
	}
	return api.Decision{Events: events}
}

// event is what an Emit makes.
func (s scope) event(m api.Emit) api.Event {
	var fields []api.Field
	for _, set := range m.Sets {
		f := s.eval(set.E)
		f.Name = set.Name
		fields = sheet.Set(fields, f)
	}
	return api.Event{Type: m.Type, Fields: fields}
}

// holds tells whether a condition holds.
func (s scope) holds(c api.Cond) bool { return s.isSo(c) != c.Not }

// isSo is holds without a look at Not.
func (s scope) isSo(c api.Cond) bool {
	switch c.Kind {
	case api.CHas:
		return s.has(c.A)
	case api.CSame, api.CLess, api.CMost:
		a := s.eval(c.A)
		b := s.eval(c.B)
		return compare(c.Kind, a, b)
	}
	panic(api.ErrRulesForm)
}

// has tells whether there is the field that an EState or EGiven names.
func (s scope) has(e api.Expr) bool {
	if !namesField(e) {
		panic(api.ErrRulesForm)
	}
	_, there := sheet.Get(s.fieldsOf(e), e.S)
	return there
}

// compare holds two values against each other.
func compare(kind int, a, b api.Field) bool {
	if kind == api.CSame {
		return a == b
	}
	if a.Text != b.Text {
		panic(api.ErrRulesType)
	}
	order := cmp.Compare(a.N, b.N)
	if a.Text {
		order = strings.Compare(a.S, b.S)
	}
	if kind == api.CLess {
		return order < 0
	}
	return order <= 0
}
