package upcast

import (
	"slices"
	"testing"

	"cartulary/api"
)

// The chapter's upcasters.
func chapter() []api.Upcast {
	return []api.Upcast{
		from("taken", 0, renames("n", "count")),
		from("taken", 1, adds(words("unit", "each")), scales("count", 100)),
	}
}

// The chapter's examples.
func TestExamples(t *testing.T) {
	l := chapter()
	isCheck(t, l, api.OK)
	brings(t, l, event("taken", 0, number("n", 3)), event("taken", 2, number("count", 300), words("unit", "each")))
	brings(t, l, event("taken", 2, number("n", 3)), event("taken", 2, number("n", 3)))
	brings(t, l, event("added", 0, number("n", 3)), event("added", 0, number("n", 3)))
	brings(t, l, event("taken", 1, number("n", 3)), event("taken", 2, number("n", 3), words("unit", "each")))
	isLatest(t, l, "taken", 2)
	isLatest(t, l, "added", 0)
}

// P14.3: it goes on as long as there is an Upcast, from each version on, one at a time.
func TestApplyGoesOn(t *testing.T) {
	for _, n := range []int{0, 1, 2, 3, 64, 65, 1000} {
		l := []api.Upcast{}
		for i := range n {
			l = append(l, from("a", i, drops("last"), adds(number("last", i)), renames("old", "new"), scales("x", -1)))
		}
		for _, version := range []int{0, 1, 2, n / 2, n - 1} {
			if version < 0 || version >= n {
				continue
			}
			x := 5
			if (n-version)%2 == 1 {
				x = -5
			}
			brings(t, l, event("a", version, number("old", 1), number("x", 5)), event("a", n, number("last", n-1), number("new", 1), number("x", x)))
		}
		for _, e := range []api.Event{event("a", n, number("x", 5)), event("a", n+1, number("x", 5)), event("a", -1, number("x", 5)), event("b", 0, number("x", 5)), event("", 0), event("a", most), event("a", least)} {
			brings(t, l, e, e)
		}
	}
}

// P14.3: it stops at a gap, and goes on behind it for events that are there.
func TestApplyGaps(t *testing.T) {
	l := []api.Upcast{from("a", 0, scales("n", 2)), from("a", 1, scales("n", 3)), from("a", 3, scales("n", 5)), from("b", 2, scales("n", 7))}
	brings(t, l, event("a", 0, number("n", 1)), event("a", 2, number("n", 6)))
	brings(t, l, event("a", 1, number("n", 1)), event("a", 2, number("n", 3)))
	brings(t, l, event("a", 2, number("n", 1)), event("a", 2, number("n", 1)))
	brings(t, l, event("a", 3, number("n", 1)), event("a", 4, number("n", 5)))
	brings(t, l, event("b", 2, number("n", 1)), event("b", 3, number("n", 7)))
	brings(t, l, event("b", 0, number("n", 1)), event("b", 0, number("n", 1)))
}

// P14.3: of several Upcasts of one Type and From the first one in the list counts.
func TestApplyFirst(t *testing.T) {
	l := []api.Upcast{from("a", 1, scales("n", 2)), from("a", 0, scales("n", 3)), from("a", 1, scales("n", 5)), from("a", 0, scales("n", 7)), from("a", 0)}
	brings(t, l, event("a", 0, number("n", 1)), event("a", 2, number("n", 6)))
	slices.Reverse(l)
	brings(t, l, event("a", 0, number("n", 1)), event("a", 2, number("n", 5)))
	isCheck(t, l, api.ErrUpcastTwice)
}

// P14.3: versions and types that may not be are taken as they stand.
func TestApplyAny(t *testing.T) {
	l := []api.Upcast{from("", -2, scales("n", 2)), from("", -1, scales("n", 3)), from("", 0, scales("n", 5)), from("A\xff", api.MaxVersion, scales("n", 7)), from("A\xff", 1<<32, scales("n", 11)), from("A\xff", least, scales("n", 13))}
	brings(t, l, event("", -2, number("n", 1)), event("", 1, number("n", 30)))
	brings(t, l, event("", -1, number("n", 1)), event("", 1, number("n", 15)))
	brings(t, l, event("", -3, number("n", 1)), event("", -3, number("n", 1)))
	brings(t, l, event("A\xff", api.MaxVersion, number("n", 1)), event("A\xff", api.MaxVersion+1, number("n", 7)))
	brings(t, l, event("A\xff", 1<<32, number("n", 1)), event("A\xff", 1<<32+1, number("n", 11)))
	brings(t, l, event("A\xff", 0, number("n", 1)), event("A\xff", 0, number("n", 1)))
	brings(t, l, event("A\xff", least, number("n", 1)), event("A\xff", least+1, number("n", 13)))
}

// R1: an Upcast of the greatest int ends too; its version wraps round, as ints do.
func TestApplyGreatest(t *testing.T) {
	l := []api.Upcast{from("a", most, scales("n", 2)), from("a", most-1, scales("n", 3))}
	brings(t, l, event("a", most-1, number("n", 1)), event("a", least, number("n", 6)))
	l = append(l, from("a", least, scales("n", 5)))
	brings(t, l, event("a", most, number("n", 1)), event("a", least+1, number("n", 10)))
}

// P14.3: an Upcast of no change makes another version all the same.
func TestApplyNone(t *testing.T) {
	for _, fields := range [][]api.Field{nil, {}, record(3), record(20)} {
		brings(t, []api.Upcast{from("a", 0), from("a", 1), {Type: "a", From: 2, Changes: []api.Change{}}}, event("a", 0, fields...), event("a", 3, fields...))
	}
}

// P14.3: more Changes and Upcasts than may be are all done.
func TestApplyMany(t *testing.T) {
	var l []api.Upcast
	for i := range 100 {
		l = append(l, from("a", i))
		for range 40 {
			l[i].Changes = append(l[i].Changes, renames("x", "y"), renames("y", "z"), renames("z", "x"))
		}
		l[i].Changes = append(l[i].Changes, renames("x", "y"))
		l[i].Changes = append(l[i].Changes, renames("y", "x"))
	}
	l[99].Changes = append(l[99].Changes, renames("x", "end"))
	isCheck(t, l, api.ErrUpcastMany)
	brings(t, l, event("a", 0, number("x", 1)), event("a", 100, number("end", 1)))
}

// P14.3: the changes of an Upcast are done in their order, each to what the ones ahead of it have left.
func TestChangesOrder(t *testing.T) {
	n := []api.Field{number("n", 3)}
	for _, x := range []struct {
		l    []api.Change
		want []api.Field
	}{
		{[]api.Change{scales("n", 2), shows("n")}, []api.Field{words("n", "6")}},
		{[]api.Change{shows("n"), scales("n", 2)}, []api.Field{words("n", "3")}},
		{[]api.Change{drops("n"), adds(words("n", "x"))}, []api.Field{words("n", "x")}},
		{[]api.Change{adds(words("n", "x")), drops("n")}, nil},
		{[]api.Change{renames("n", "m"), scales("m", 5)}, []api.Field{number("m", 15)}},
		{[]api.Change{scales("m", 5), renames("n", "m")}, []api.Field{number("m", 3)}},
		{[]api.Change{renames("n", "m"), adds(number("n", 9)), scales("n", 2)}, []api.Field{number("m", 3), number("n", 18)}},
		{[]api.Change{adds(number("m", 9)), renames("n", "m")}, []api.Field{number("m", 9), number("n", 3)}},
		{[]api.Change{adds(number("m", 9)), drops("n"), renames("m", "n")}, []api.Field{number("n", 9)}},
		{[]api.Change{adds(number("a", 1)), adds(number("a", 2)), adds(number("z", 3))}, []api.Field{number("a", 1), number("n", 3), number("z", 3)}},
	} {
		brings(t, []api.Upcast{from("a", 0, x.l...)}, event("a", 0, n...), event("a", 1, x.want...))
		// The same, a version each.
		var apart []api.Upcast
		for i, c := range x.l {
			apart = append(apart, from("a", i, c))
		}
		brings(t, apart, event("a", 0, n...), event("a", len(apart), x.want...))
	}
}

// P14.4: upcasters that may be can stand in any order.
func TestAnyOrder(t *testing.T) {
	l := append(chapter(), from("taken", 2, shows("count")), from("added", 0, drops("n")))
	orders(l, func(l []api.Upcast) {
		isCheck(t, l, api.OK)
		isLatest(t, l, "taken", 3)
		isLatest(t, l, "added", 1)
		brings(t, l, event("taken", 0, number("n", 3)), event("taken", 3, words("count", "300"), words("unit", "each")))
		brings(t, l, event("added", 0, number("n", 3)), event("added", 1))
	})
}

// orders hands a list to take in each of its orders.
func orders(l []api.Upcast, take func(l []api.Upcast)) {
	if len(l) < 2 {
		take(l)
		return
	}
	for i := range l {
		rest := slices.Concat(l[:i], l[i+1:])
		orders(rest, func(x []api.Upcast) { take(slices.Concat([]api.Upcast{l[i]}, x)) })
	}
}
