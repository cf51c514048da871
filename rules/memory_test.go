package rules

import (
	"fmt"
	"math/rand"
	"reflect"
	"slices"
	"strings"
	"testing"

	"cartulary/api"
)

// roomy is a list of the same things, with room behind its end in which others stand.
func roomy[T any](l []T, spare ...T) []T {
	room := slices.Concat(make([]T, 0, len(l)+len(spare)+2), l, spare)
	return room[:len(l)]
}

func roomyFields(l []api.Field) []api.Field {
	return roomy(l, number("spare", 1), words("a", "2"), number("", 3))
}

func roomyExpr(e api.Expr) api.Expr {
	e.Args = roomy(e.Args, num(98), txt("spare"))
	for i := range e.Args {
		e.Args[i] = roomyExpr(e.Args[i])
	}
	return e
}

func roomySets(l []api.Assign) []api.Assign {
	l = roomy(l, as("spare", num(97)), as("spare2", self()))
	for i := range l {
		l[i].E = roomyExpr(l[i].E)
	}
	return l
}

func roomyCase(c api.Case) api.Case {
	c.When = roomy(c.When, when(api.CSame, num(1), num(2)))
	for i := range c.When {
		c.When[i].A, c.When[i].B = roomyExpr(c.When[i].A), roomyExpr(c.When[i].B)
	}
	c.Emits = roomy(c.Emits, api.Emit{Type: "spare"})
	for i := range c.Emits {
		c.Emits[i].Sets = roomySets(c.Emits[i].Sets)
	}
	return c
}

// roomyTable is a table of which each list has room, and nothing is shared with another.
func roomyTable(r api.Rules) api.Rules {
	r.Handlers = roomy(r.Handlers, api.Handler{Command: "spare"})
	for i := range r.Handlers {
		h := &r.Handlers[i]
		h.Needs = roomy(h.Needs, api.Need{Name: "spare"})
		h.Cases = roomy(h.Cases, api.Case{Refuse: "spare"})
		for j := range h.Cases {
			h.Cases[j] = roomyCase(h.Cases[j])
		}
	}
	r.Evolves = roomy(r.Evolves, api.Evolve{Type: "spare"})
	for i := range r.Evolves {
		v := &r.Evolves[i]
		v.Sets, v.Drops = roomySets(v.Sets), roomy(v.Drops, "spare")
	}
	return r
}

// whole tells all of a thing, the room behind the end of each list included.
func whole(x any) string {
	var b strings.Builder
	tell(&b, reflect.ValueOf(x))
	return b.String()
}

func tell(b *strings.Builder, v reflect.Value) {
	switch v.Kind() {
	case reflect.Slice:
		fmt.Fprintf(b, "%d[", v.Len())
		for i := range v.Cap() {
			tell(b, v.Slice(0, v.Cap()).Index(i))
		}
		b.WriteString("]")
	case reflect.Struct:
		for i := range v.NumField() {
			tell(b, v.Field(i))
			b.WriteString(",")
		}
	default:
		fmt.Fprintf(b, "%#v", v.Interface())
	}
}

// scrawl writes over a list, and over its room.
func scrawl(l []api.Field) {
	l = l[:cap(l)]
	for i := range l {
		l[i] = api.Field{Name: "!", Text: true, N: -1, S: "!"}
	}
}

// scrawlAll writes over all lists of a decision.
func scrawlAll(d api.Decision) {
	l := d.Events[:cap(d.Events)]
	for i := range l {
		scrawl(l[i].Fields)
		l[i] = api.Event{Type: "!", Version: -1}
	}
}

// asked is all that a call is handed.
type asked struct {
	R            api.Rules
	State, Given []api.Field
	Event        api.Event
}

// drawnAsked are tables, states and given fields, all with room.
func drawnAsked(r *rand.Rand) asked {
	x := drawnTable(r)
	if in(r, 3) {
		spoilTable(r, &x)
	}
	return asked{
		R:     roomyTable(x),
		State: roomyFields(drawnList(r)),
		Given: roomyFields(drawnGiven(r, x, "do0")),
		Event: api.Event{Type: of(r, "done0", "done1", "none"), Fields: roomyFields(drawnList(r))},
	}
}

// R4, P13.6: what is handed in stays as it was, behind its end too.
func TestHandedIn(t *testing.T) {
	r := rand.New(rand.NewSource(5))
	for range 4000 {
		a := drawnAsked(r)
		was := whole(a)
		Check(a.R)
		Decide(a.R, "s", a.State, "do0", a.Given)
		Fold(a.R, "s", a.State, a.Event)
		for c := range conditions(a.R) {
			Holds(c, "s", a.State, a.Given)
		}
		for e := range expressions(a.R) {
			Eval(e, "s", a.State, a.Given)
		}
		if whole(a) != was {
			t.Fatalf("%s is %s", was, whole(a))
		}
	}
}

// R4: what is answered shares nothing with what was handed in, nor with another answer; and no two lists of one answer share any.
func TestHandedOut(t *testing.T) {
	r := rand.New(rand.NewSource(6))
	several := 0
	for range 8000 {
		a := drawnAsked(r)
		was := whole(a)
		first, _ := Decide(a.R, "s", a.State, "do0", a.Given)
		second, _ := Decide(a.R, "s", a.State, "do0", a.Given)
		one, two := Fold(a.R, "s", a.State, a.Event), Fold(a.R, "s", a.State, a.Event)
		wantDecision, wantState := fmt.Sprintf("%+v", second), slices.Clone(two)
		scrawlAll(first)
		scrawl(one)
		if whole(a) != was || fmt.Sprintf("%+v", second) != wantDecision || !slices.Equal(two, wantState) {
			t.Fatalf("%s is %s; %+v, %+v", was, whole(a), second, two)
		}
		scrawl(a.State[:cap(a.State)])
		scrawl(a.Given[:cap(a.Given)])
		scrawl(a.Event.Fields[:cap(a.Event.Fields)])
		if fmt.Sprintf("%+v", second) != wantDecision || !slices.Equal(two, wantState) {
			t.Fatalf("%+v, %+v", second, two)
		}
		if len(second.Events) > 1 {
			several++
			listsApart(t, second)
		}
	}
	if several < 300 {
		t.Errorf("only %d had several events", several)
	}
}

// listsApart writes over each event's fields, and their room, and asks for the others to stay.
func listsApart(t *testing.T, d api.Decision) {
	t.Helper()
	for i := range d.Events {
		var others []string
		for j := range d.Events {
			others = append(others, fmt.Sprintf("%+v", d.Events[j]))
		}
		scrawl(d.Events[i].Fields)
		for j := range d.Events {
			if j != i && fmt.Sprintf("%+v", d.Events[j]) != others[j] {
				t.Fatalf("%s is %+v", others[j], d.Events[j])
			}
		}
	}
}

// R4: also where nothing is to be done to a state, its list is a new one, and so is its room.
func TestFoldNew(t *testing.T) {
	for _, r := range []api.Rules{{}, evolve(nil), evolve([]string{"none"}), evolve(nil, as("a", st("none"))), evolve(nil, as("zz", num(1)))} {
		for _, kind := range []string{"done", "none"} {
			for _, n := range []int{0, 1, 3, 16, 17} {
				state := roomyFields(record(n))
				was := whole(state)
				got := Fold(r, "s", state, api.Event{Type: kind})
				want := slices.Clone(got)
				_ = append(got, number("behind", 1))
				scrawl(got)
				if whole(state) != was {
					t.Fatalf("%s is %s", was, whole(state))
				}
				got = Fold(r, "s", state, api.Event{Type: kind})
				_ = append(state, number("behind", 2))
				scrawl(state)
				if !slices.Equal(got, want) {
					t.Fatalf("%+v is %+v", want, got)
				}
			}
		}
	}
}

// R5, P13.6: what is answered hangs on the arguments alone, not on a list's room, and is the same again.
func TestSameAgain(t *testing.T) {
	r := rand.New(rand.NewSource(7))
	for range 2000 {
		a := drawnAsked(r)
		b := asked{R: a.R, State: slices.Clip(slices.Clone(a.State)), Given: slices.Clip(slices.Clone(a.Given)), Event: api.Event{Type: a.Event.Type, Fields: slices.Clone(a.Event.Fields)}}
		first, e := Decide(a.R, "s", a.State, "do0", a.Given)
		state := Fold(a.R, "s", a.State, a.Event)
		for _, x := range []asked{a, b, a} {
			again, wrong := Decide(x.R, "s", x.State, "do0", x.Given)
			if !alike(again, first) || wrong != e {
				t.Fatalf("%+v, %v, not %+v, %v", again, wrong, first, e)
			}
			if got := Fold(x.R, "s", x.State, x.Event); !slices.Equal(got, state) {
				t.Fatalf("%+v, not %+v", got, state)
			}
			if Check(x.R) != Check(a.R) {
				t.Fatal("Check answers otherwise")
			}
		}
	}
}
