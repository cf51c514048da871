package upcast

import (
	"fmt"
	"math/rand"
	"reflect"
	"slices"
	"strings"
	"testing"

	"cartulary/api"
)

// roomy is a list of the same things, with room behind its end in which others stand.
func roomy[T any](l []T, spare ...T) []T {
	room := slices.Concat(make([]T, 0, len(l)+len(spare)+2), l, spare)
	return room[:len(l)]
}

func roomyFields(l []api.Field) []api.Field {
	return roomy(l, number("spare", 1), words("a", "2"), number("", 3))
}

// roomyUpcasts have room in each list. What stands there would bring events up further, if it were taken for theirs.
func roomyUpcasts(l []api.Upcast) []api.Upcast {
	l = roomy(l, from("done", 0, drops("a")), from("taken", 5, shows("n")))
	for i := range l {
		l[i].Changes = roomy(l[i].Changes, drops("n"), adds(number("spare", 2)))
	}
	return l
}

// whole tells all of a thing, the room behind the end of each list included.
func whole(x any) string {
	var b strings.Builder
	tell(&b, reflect.ValueOf(x))
	return b.String()
}

func tell(b *strings.Builder, v reflect.Value) {
	switch v.Kind() {
	case reflect.Slice:
		fmt.Fprintf(b, "%d[", v.Len())
		for i := range v.Cap() {
			tell(b, v.Slice(0, v.Cap()).Index(i))
		}
		b.WriteString("]")
	case reflect.Struct:
		for i := range v.NumField() {
			tell(b, v.Field(i))
			b.WriteString(",")
		}
	default:
		fmt.Fprintf(b, "%#v", v.Interface())
	}
}

// scrawl writes over a list, and over its room.
func scrawl(l []api.Field) {
	l = l[:cap(l)]
	for i := range l {
		l[i] = api.Field{Name: "!", Text: true, N: -1, S: "!"}
	}
}

// scrawlUpcasts writes over upcasters, and over their room.
func scrawlUpcasts(l []api.Upcast) {
	l = l[:cap(l)]
	for i := range l {
		c := l[i].Changes[:cap(l[i].Changes)]
		for j := range c {
			c[j] = api.Change{Kind: -1, Name: "!", To: "!", F: words("!", "!")}
		}
		l[i] = api.Upcast{Type: "!", From: -1}
	}
}

// asked is all that a call is handed.
type asked struct {
	L []api.Upcast
	E api.Event
}

// drawnAsked are upcasters and an event, all with room.
func drawnAsked(r *rand.Rand) asked {
	l := drawnUpcasts(r)
	for range r.Intn(3) {
		l = spoil(r, l)
	}
	return asked{roomyUpcasts(l), api.Event{Type: drawnKind(r), Version: drawnVersion(r), Fields: roomyFields(drawnList(r))}}
}

// R4: what is handed in stays as it was, behind its end too.
func TestHandedIn(t *testing.T) {
	r := rand.New(rand.NewSource(6))
	for range 8000 {
		a := drawnAsked(r)
		was := whole(a)
		Check(a.L)
		Latest(a.L, a.E.Type)
		Apply(a.L, a.E)
		if whole(a) != was {
			t.Fatalf("%s is %s", was, whole(a))
		}
	}
}

// R4: what is answered shares nothing with what was handed in, nor with another answer; and nothing of it is kept.
func TestHandedOut(t *testing.T) {
	r := rand.New(rand.NewSource(7))
	for range 8000 {
		a := drawnAsked(r)
		was := whole(a)
		first, second := Apply(a.L, a.E), Apply(a.L, a.E)
		want := event(second.Type, second.Version, second.Fields...)
		_ = append(first.Fields, number("behind", 1))
		scrawl(first.Fields)
		if whole(a) != was || !alike(second, want) || !alike(Apply(a.L, a.E), want) {
			t.Fatalf("%s is %s; %+v, not %+v", was, whole(a), second, want)
		}
		scrawl(a.E.Fields)
		scrawlUpcasts(a.L)
		if !alike(second, want) {
			t.Fatalf("%+v is %+v", want, second)
		}
	}
}

// R4: also where nothing is to be done to an event, its list is a new one, and so is its room.
func TestApplyNew(t *testing.T) {
	for _, l := range [][]api.Upcast{nil, {from("b", 0, drops("a"))}, {from("a", 0)}, {from("a", 0, api.Change{})}, {from("a", 0, drops("none"), renames("none", "a"), shows("none"), scales("none", 2), renames("f00", "f00"))}, {from("a", 0, adds(number("f00", 9)))}, {from("a", 0, scales("f01", most))}} {
		for _, n := range []int{0, 1, 3, 16, 17} {
			e := api.Event{Type: "a", Fields: roomyFields(record(n))}
			was := whole(e)
			got := Apply(l, e)
			want := slices.Clone(got.Fields)
			_ = append(got.Fields, number("behind", 1))
			scrawl(got.Fields)
			if whole(e) != was {
				t.Fatalf("%s is %s", was, whole(e))
			}
			got = Apply(l, e)
			_ = append(e.Fields, number("behind", 2))
			scrawl(e.Fields)
			if !slices.Equal(got.Fields, want) {
				t.Fatalf("%+v is %+v", want, got.Fields)
			}
		}
	}
}

// R5: what is answered hangs on the arguments alone, not on a list's room nor on what was asked before, and is the same again.
func TestSameAgain(t *testing.T) {
	r := rand.New(rand.NewSource(8))
	for range 3000 {
		a := drawnAsked(r)
		b := asked{slices.Clip(slices.Clone(a.L)), event(a.E.Type, a.E.Version, a.E.Fields...)}
		for i := range b.L {
			b.L[i].Changes = slices.Clip(slices.Clone(b.L[i].Changes))
		}
		wrong, latest, brought := Check(a.L), Latest(a.L, a.E.Type), Apply(a.L, a.E)
		other := drawnAsked(r)
		for _, x := range []asked{a, b, a} {
			Check(other.L)
			Apply(other.L, other.E)
			if Check(x.L) != wrong || Latest(x.L, x.E.Type) != latest || !alike(Apply(x.L, x.E), brought) {
				t.Fatalf("%v, %d, %+v, not %v, %d, %+v", Check(x.L), Latest(x.L, x.E.Type), Apply(x.L, x.E), wrong, latest, brought)
			}
		}
	}
}

// R4: one list of changes may stand in several upcasters, and one field in them and in an event.
func TestSharedParts(t *testing.T) {
	c := []api.Change{adds(number("a", 1)), scales("a", 2)}
	l := []api.Upcast{{Type: "a", Changes: c}, {Type: "a", From: 1, Changes: c}, {Type: "b", Changes: c[:1]}}
	isCheck(t, l, api.OK)
	brings(t, l, event("a", 0), event("a", 2, number("a", 4)))
	brings(t, l, event("b", 0), event("b", 1, number("a", 1)))
	brings(t, l, event("a", 0), event("a", 2, number("a", 4)))
}
