package rules

import (
	"strconv"

	"cartulary/api"
	"cartulary/sheet"
)

// scope is what expressions are evaluated with.
type scope struct {
	stream       string
	state, given []api.Field
	pairs        map[int]pair
}

// pair puts two integers together; false: the result is beyond an int, or beyond MaxNumber.
type pair func(a, b int) (int, bool)

func newScope(stream string, state, given []api.Field) scope {
	return scope{stream: stream, state: state, given: given, pairs: newPairs()}
}

// caught is what do answers; or, if do gives up by a panic of an Errno, that error. Nothing within panics by anything else.
func caught[T any](do func() T) (answer T, e api.Errno) {
	defer func() {
		if wrong, gaveUp := recover().(api.Errno); gaveUp {
			e = wrong
		}
	}()
	return do(), api.OK
}

// eval is an expression's value, whatever the expression is.
func (s scope) eval(e api.Expr) api.Field {
	if !wellFormed(e) {
		panic(api.ErrRulesForm)
	}
	return s.value(e)
}

// value is the value of an expression of the right form.
func (s scope) value(e api.Expr) api.Field {
	args := make([]api.Field, 0, len(e.Args))
	for _, a := range e.Args {
		args = append(args, s.value(a))
	}
	switch e.Kind {
	case api.EInt:
		return integer(e.N)
	case api.EText:
		return text(e.S)
	case api.EState, api.EGiven:
		return valueOf(s.fieldsOf(e), e.S)
	case api.ESelf:
		return text(s.stream)
	case api.EJoin:
		return join(textOf(args[0]), textOf(args[1]))
	case api.ELen:
		return integer(len(textOf(args[0])))
	case api.EShow:
		return text(strconv.Itoa(integerOf(args[0])))
	}
	return s.together(e.Kind, integerOf(args[0]), integerOf(args[1]))
}

func integer(n int) api.Field { return api.Field{N: n} }

func text(s string) api.Field { return api.Field{Text: true, S: s} }

// fieldsOf are those in which an EState or EGiven names one.
func (s scope) fieldsOf(e api.Expr) []api.Field {
	if e.Kind == api.EState {
		return s.state
	}
	return s.given
}

// valueOf is the value of a field, as it stands.
func valueOf(l []api.Field, name string) api.Field {
	f, there := sheet.Get(l, name)
	if !there {
		panic(api.ErrRulesField)
	}
	f.Name = ""
	return f
}

func integerOf(v api.Field) int {
	if v.Text {
		panic(api.ErrRulesType)
	}
	return v.N
}

func textOf(v api.Field) string {
	if !v.Text {
		panic(api.ErrRulesType)
	}
	return v.S
}

// join is one text behind the other.
func join(a, b string) api.Field {
	if len(a)+len(b) > api.MaxText {
		panic(api.ErrRulesRange)
	}
	return text(a + b)
}

// together is two integers put together.
func (s scope) together(kind, a, b int) api.Field {
	n, ok := s.pairs[kind](a, b)
	if !ok {
		panic(api.ErrRulesRange)
	}
	return integer(n)
}

// newPairs is how two integers are put together, by kinds. A sum or a difference wraps round, if it goes the other way than its second part says.
func newPairs() map[int]pair {
	return map[int]pair{
		api.EAdd: func(a, b int) (int, bool) {
			n := a + b
			return n, (n < a) == (b < 0) && inBounds(n)
		},
		api.ESub: func(a, b int) (int, bool) {
			n := a - b
			return n, (n > a) == (b < 0) && inBounds(n)
		},
		api.EMul: times,
	}
}

// times is a product. Where neither part is 0, it is no nearer to 0 than each of them, so parts beyond the bounds need not be multiplied.
func times(a, b int) (int, bool) {
	if a == 0 || b == 0 {
		return 0, true
	}
	if !inBounds(a) || !inBounds(b) || max(a, -a) > api.MaxNumber/max(b, -b) {
		return 0, false
	}
	return a * b, true
}

func inBounds(n int) bool { return -api.MaxNumber <= n && n <= api.MaxNumber }
