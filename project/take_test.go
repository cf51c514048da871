package project

import (
	"fmt"
	"slices"
	"strings"
	"testing"

	"cartulary/api"
)

// P17.2: New is without rows, and its cursor is 0; of any projection, and any upcasters.
func TestNew(t *testing.T) {
	for _, p := range []api.Projection{{}, chapter(), right(16), right(500), named(strings.Repeat("A", 1000), onto("", api.Expr{}, st(""))), {Sums: []api.Sum{{}, {}}}} {
		for _, l := range [][]api.Upcast{nil, {}, {{}}, {{Type: "taken"}, {Type: "taken"}}, slices.Repeat([]api.Upcast{{Type: "a", From: least, Changes: []api.Change{{}, {Kind: 9}}}}, 100)} {
			v := New(p, l)
			told(t, v, 0)
			if l := v.Rows(); len(l) != 0 {
				t.Errorf("%v", l)
			}
			takes(t, v, "s", event("x", 0))
			told(t, v, 1)
		}
	}
}

// P17.2: an entry is taken if its Pos is the cursor; else nothing happens.
func TestPlaces(t *testing.T) {
	v := New(byKey(), nil)
	for cursor := range 70 {
		rows := []api.Row{row("k", cursor)}
		if cursor == 0 {
			rows = nil
		}
		for _, pos := range []int{cursor - 1, cursor + 1, cursor - 2, cursor + 2, -1, -cursor - 1, cursor + 64, cursor + 1<<32, most, least, least + cursor, cursor * 2, cursor ^ 1} {
			if pos == cursor {
				continue
			}
			if v.Take(api.Entry{Pos: pos, Stream: "s", Number: cursor, Event: adds("k", 1)}) {
				t.Fatalf("the place %d at the cursor %d is taken", pos, cursor)
			}
			told(t, v, cursor, rows...)
		}
		// Its number in its stream is no matter.
		number := []int{0, cursor, -1, most, least}[cursor%5]
		if !v.Take(api.Entry{Pos: cursor, Stream: "s", Number: number, Event: adds("k", 1)}) {
			t.Fatalf("the place %d is not taken", cursor)
		}
		told(t, v, cursor+1, row("k", cursor+1))
	}
}

// P17.2: an event of another type moves the cursor, and nothing else; so does one of no fields, and any that may not be.
func TestOtherTypes(t *testing.T) {
	v := New(chapter(), nil)
	takes(t, v, "acc", given(5))
	for i, kind := range []string{"", "take", "takenn", "Taken", "taken\x00", " taken", "opened", strings.Repeat("x", 100)} {
		takes(t, v, "acc", event(kind, 0, number("n", 3)))
		told(t, v, 2+i, row("acc", 5))
	}
	takes(t, v, "acc", event("taken", 0), event("taken", -1), event("taken", most), api.Event{})
	told(t, v, 13, row("acc", 5))
	takes(t, v, "", given(1))
	takes(t, v, "acc", given(-7))
	told(t, v, 15, row("", 1), row("acc", -2))
}

// P17.2: the key is a text, or the digits of an integer; both may be one row.
func TestKeys(t *testing.T) {
	for _, c := range []struct {
		key  api.Expr
		want string
	}{
		{self(), "acc"}, {txt(""), ""}, {txt("x y&\xff"), "x y&\xff"}, {gv("s"), "a text"}, {gv("n"), "3"}, {gv("zero"), "0"}, {gv("low"), "-17"},
		{gv("least"), "-9223372036854775808"}, {gv("most"), "9223372036854775807"}, {num(0), "0"}, {num(-1), "-1"}, {num(10), "10"}, {num(-100), "-100"},
		{num(bound), "1000000000000000"}, {num(-bound), "-1000000000000000"}, {num(bound + 1), "1000000000000001"}, {ex(api.EShow, gv("low")), "-17"},
		{ex(api.EAdd, gv("n"), gv("low")), "-14"}, {ex(api.EJoin, self(), ex(api.EJoin, txt("/"), gv("s"))), "acc/a text"}, {ex(api.ELen, gv("s")), "6"}, {txt("007"), "007"},
	} {
		v := New(named("p", onto("e", c.key, gv("n"))), nil)
		e := event("e", 0, number("n", 3), words("s", "a text"), number("zero", 0), number("low", -17), number("least", least), number("most", most))
		takes(t, v, "acc", e)
		told(t, v, 1, row(c.want, 3))
		takes(t, v, "acc", e)
		told(t, v, 2, row(c.want, 6))
	}
	v := New(named("p", onto("e", gv("k"), num(1))), nil)
	takes(t, v, "s", event("e", 0, number("k", 5)), event("e", 0, words("k", "5")), event("e", 0, words("k", "05")), event("e", 0, number("k", -5)), event("e", 0, words("k", "-5")), event("e", 0, words("k", "+5")))
	told(t, v, 6, row("+5", 1), row("-5", 2), row("05", 1), row("5", 2))
}

// P17.2: a key of no byte, of MaxText bytes, of one more; however it has come to be so long, and whether it is an integer's or not.
func TestLongKeys(t *testing.T) {
	for _, n := range []int{0, 1, 199, 200, 201, 202, 255, 256, 1000, 70000} {
		long := strings.Repeat("\xff", n)
		for i, key := range []api.Expr{txt(long), gv("k"), self()} {
			v := New(named("p", onto("e", key, gv("n")), onto("e", num(7), num(1))), nil)
			takes(t, v, long, adds(long, 4), adds(long, 5))
			if n > 200 {
				told(t, v, 2, row("7", 2))
			} else {
				told(t, v, 2, slices.SortedFunc(slices.Values([]api.Row{row("7", 2), row(long, 9)}), func(a, b api.Row) int { return strings.Compare(a.Key, b.Key) })...)
			}
			if n, ok := v.Get(long); ok != (len(long) <= 200) || ok && n != 9 {
				t.Errorf("%d bytes, %d: %d, %v", len(long), i, n, ok)
			}
		}
	}
	// Bytes are counted, not letters.
	v := New(byKey(), nil)
	takes(t, v, "s", adds(strings.Repeat("é", 100), 1), adds(strings.Repeat("é", 101), 1), adds(strings.Repeat("é", 100), 1))
	told(t, v, 3, row(strings.Repeat("é", 100), 2))
	// What is joined may be as long as that, and no longer.
	for _, n := range []int{99, 100, 101} {
		v := New(named("p", onto("e", ex(api.EJoin, gv("k"), txt(strings.Repeat("y", 100))), gv("n"))), nil)
		takes(t, v, "s", adds(strings.Repeat("x", n), 1))
		if n > 100 {
			told(t, v, 1)
		} else {
			told(t, v, 1, row(strings.Repeat("x", n)+strings.Repeat("y", 100), 1))
		}
	}
}

// P17.2: what is added, at -MaxNumber and MaxNumber, and one beyond each, to no row and to one that is there.
func TestAddedEdges(t *testing.T) {
	for _, n := range []int{0, 1, -1, bound - 1, bound, -bound + 1, -bound, bound + 1, -bound - 1, bound + 2, 2 * bound, -2 * bound, 1 << 62, -1 << 62, most, least, most - bound, least + bound} {
		for _, there := range []bool{false, true} {
			for i, add := range []api.Expr{num(n), gv("n"), ex(api.EAdd, gv("n"), num(0))} {
				v := New(named("p", onto("zero", txt("k"), num(0)), onto("e", txt("k"), add)), nil)
				if there {
					takes(t, v, "s", event("zero", 0))
				}
				takes(t, v, "s", adds("k", n))
				in := n >= -bound && n <= bound
				switch {
				case in && there:
					told(t, v, 2, row("k", n))
				case in:
					told(t, v, 1, row("k", n))
				case there:
					told(t, v, 2, row("k", 0))
				default:
					told(t, v, 1)
				}
				if t.Failed() {
					t.Fatalf("%d, %d, %v", n, i, there)
				}
			}
		}
	}
}

// P17.2: a row's number, at -MaxNumber and MaxNumber, and one beyond each: what goes beyond is not added, what stays within is, the next one too.
func TestRowEdges(t *testing.T) {
	v := New(byKey(), nil)
	at := 0
	add := func(n, want int) {
		t.Helper()
		takes(t, v, "s", adds("k", n))
		at++
		told(t, v, at, row("k", want))
	}
	add(bound-1, bound-1)
	add(2, bound-1)
	add(1, bound)
	add(1, bound)
	add(bound, bound)
	add(0, bound)
	add(-1, bound-1)
	add(1, bound)
	add(-bound, 0)
	add(bound, bound)
	add(-bound, 0)
	add(-bound, -bound)
	add(-1, -bound)
	add(-bound, -bound)
	add(least, -bound)
	add(0, -bound)
	add(bound, 0)
	add(-bound+1, -bound+1)
	add(-2, -bound+1)
	add(-1, -bound)
	add(1, -bound+1)
	add(bound+1, -bound+1) // what is added is beyond, though the row's number would not be
	add(-bound-1, -bound+1)
	add(bound, 1)
	add(bound+1, 1)
	add(-bound-1, 1)
	add(-bound, -bound+1)
}

// P17.2: an error in the key or in what is added, and what is added a text: of that sum nothing; the other ones are done.
func TestErrors(t *testing.T) {
	good := txt("k")
	for i, wrong := range []api.Expr{
		gv("none"), gv(""), st("n"), st("k"), ex(api.EAdd, gv("n"), txt("x")), ex(api.EJoin, gv("n"), txt("x")), ex(api.ELen, gv("n")), ex(api.EShow, gv("k")),
		ex(api.EMul, num(bound), num(2)), ex(api.EAdd, num(bound), num(1)), ex(api.ESub, num(-bound), num(1)), ex(api.EJoin, txt(strings.Repeat("x", 200)), txt("x")),
		{}, {Kind: 12}, {Kind: -1}, {Kind: api.EAdd}, ex(api.EAdd, num(1)), ex(api.EAdd, num(1), num(1), num(1)), ex(api.EInt, num(1)), ex(api.ESelf, num(1)), chain(65, num(1)), full(65),
		chain(64, gv("none")), instead(full(63), 31, st("n")), instead(full(63), 62, api.Expr{}), ex(api.EAdd, gv("n"), st("n")),
	} {
		if _, ok := plainEval(wrong, "s", nil, adds("k", 4).Fields); ok {
			t.Fatalf("%d: it has a value", i)
		}
		for _, x := range []api.Sum{onto("e", wrong, num(1)), onto("e", good, wrong), onto("e", wrong, wrong), onto("e", wrong, txt("x"))} {
			v := New(named("p", x), nil)
			takes(t, v, "s", adds("k", 4))
			told(t, v, 1)
			// Between others.
			v = New(named("p", onto("e", txt("a"), num(1)), x, onto("e", txt("b"), num(2)), x), nil)
			takes(t, v, "s", adds("k", 4), adds("k", 4))
			told(t, v, 2, row("a", 2), row("b", 4))
		}
	}
	for _, words := range []api.Expr{txt("5"), txt(""), self(), gv("k"), ex(api.EShow, num(5)), ex(api.EJoin, txt("1"), txt("2")), chain(64, num(5))} {
		v := New(named("p", onto("e", good, words), onto("e", txt("b"), num(2))), nil)
		takes(t, v, "7", adds("8", 4))
		told(t, v, 1, row("b", 2))
	}
}

// P17.2: of each sum of the type, in order, each with what those ahead of it have come to.
func TestOrder(t *testing.T) {
	k := txt("k")
	e := event("e", 0)
	for _, c := range []struct {
		adds []int
		want int
	}{
		{[]int{1, 2, 3}, 6}, {[]int{bound, 1, -5}, bound - 5}, {[]int{bound, -5, 1}, bound - 4}, {[]int{-5, bound, 1}, bound - 4}, {[]int{1, bound, -5}, -4},
		{[]int{-bound, -1, 5}, -bound + 5}, {[]int{5, -bound, -6}, -bound + 5}, {[]int{0, 0, 0}, 0}, {[]int{bound + 1, 7, -bound - 1}, 7},
	} {
		p := named("p")
		for _, n := range c.adds {
			p.Sums = append(p.Sums, onto("e", k, num(n)), onto("other", k, num(1)))
		}
		v := New(p, nil)
		takes(t, v, "s", e)
		told(t, v, 1, row("k", c.want))
	}
	// Many sums, of a projection that Check does not take, too.
	p := named("p")
	for i := range 300 {
		p.Sums = append(p.Sums, onto("e", num(i%7), num(i)))
	}
	v := New(p, nil)
	takes(t, v, "s", e)
	told(t, v, 1, plainRows(p, nil, []api.Entry{{Event: e}})...)
}

// rowsOf are so many rows of numbers, from 1 on, by keys that rise.
func rowsOf(n int) (l []api.Row, events []api.Event) {
	for i := range n {
		key := fmt.Sprintf("%03d", i)
		l, events = append(l, row(key, i+1)), append(events, adds(key, i+1))
	}
	return l, events
}

// P17.2: MaxRows rows and one more; and onto rows that are there when there are so many.
func TestManyRows(t *testing.T) {
	rows, events := rowsOf(200)
	v := New(byKey(), nil)
	for i, e := range events {
		takes(t, v, "s", e)
		told(t, v, i+1, rows[:i+1]...)
	}
	for i, key := range []string{"200", "", "zzz", "00", "0000", "\xff", strings.Repeat("x", 200)} {
		takes(t, v, "s", adds(key, 1))
		told(t, v, 201+i, rows...)
	}
	at := v.Cursor()
	for i := range rows {
		takes(t, v, "s", adds(rows[i].Key, 1000-i))
		rows[i].N += 1000 - i
	}
	told(t, v, at+200, rows...)
	takes(t, v, "s", adds("000", -rows[0].N)) // a row of 0 stays one
	rows[0].N = 0
	takes(t, v, "s", adds("new", 1))
	told(t, v, at+202, rows...)
	takes(t, v, "s", adds("000", bound), adds("000", 1), adds("000", -1))
	rows[0].N = bound - 1
	told(t, v, at+205, rows...)
}

// P17.2: what is not added is no row of the MaxRows; what is added with 0 is one.
func TestRowsThatCount(t *testing.T) {
	v := New(byKey(), nil)
	rows, events := rowsOf(199)
	for i := range 300 {
		takes(t, v, "s", adds(fmt.Sprint("beyond", i), bound+1), adds(strings.Repeat("x", 201+i), 1), event("e", 0, words("k", fmt.Sprint("none", i))))
	}
	told(t, v, 900)
	takes(t, v, "s", events...)
	told(t, v, 1099, rows...)
	takes(t, v, "s", adds("beyond", -bound-1), adds("zero", 0), adds("more", 1), adds("zero", 5))
	told(t, v, 1103, append(rows, row("zero", 5))...)

	v = New(byKey(), nil)
	for i := range 201 {
		takes(t, v, "s", adds(fmt.Sprintf("%03d", i), 0))
	}
	if l := v.Rows(); len(l) != 200 || l[199] != row("199", 0) {
		t.Errorf("%d rows, %v", len(l), l[199])
	}
}

// P17.2: two sums of one event, of which the first makes the last row that there may be.
func TestLastRow(t *testing.T) {
	for first := range 2 {
		a, b := onto("two", txt("a"), num(1)), onto("two", txt("b"), num(2))
		if first == 1 {
			a, b = b, a
		}
		v := New(named("p", onto("e", gv("k"), gv("n")), a, b, onto("two", txt("000"), num(10))), nil)
		rows, events := rowsOf(199)
		takes(t, v, "s", events...)
		takes(t, v, "s", event("two", 0), event("two", 0))
		rows[0].N += 20
		told(t, v, 201, append(rows, []api.Row{row("a", 2), row("b", 4)}[first])...)
	}
}

// takenUp are chapter 14's upcasters: they bring `taken` from 0 to 2.
func takenUp() []api.Upcast {
	return []api.Upcast{
		{Type: "taken", From: 0, Changes: []api.Change{{Kind: api.URename, Name: "n", To: "count"}}},
		{Type: "taken", From: 1, Changes: []api.Change{{Kind: api.UAdd, F: words("unit", "each")}, {Kind: api.UScale, Name: "count", F: api.Field{N: 100}}}},
	}
}

// P17.2: events are brought up first.
func TestBroughtUp(t *testing.T) {
	p := named("p", onto("taken", gv("unit"), gv("count")), onto("taken", txt("old"), gv("n")), onto("added", self(), gv("n")))
	v := New(p, takenUp())
	takes(t, v, "s", given(3))
	told(t, v, 1, row("each", 300))
	takes(t, v, "s", event("taken", 1, number("count", 2)))
	told(t, v, 2, row("each", 500))
	takes(t, v, "s", event("taken", 2, number("count", 1), words("unit", "box")))
	told(t, v, 3, row("box", 1), row("each", 500))
	takes(t, v, "s", event("taken", 2, number("n", 7)), event("taken", 3, number("n", 8)), event("taken", -1, number("n", 9)))
	told(t, v, 6, row("box", 1), row("each", 500), row("old", 24))
	takes(t, v, "s", event("added", 0, number("n", 4)), event("added", 1, number("n", 4)))
	told(t, v, 8, row("box", 1), row("each", 500), row("old", 24), row("s", 8))

	// Without them each event is as it was.
	v = New(p, nil)
	takes(t, v, "s", given(3), event("taken", 1, number("count", 2), words("unit", "u")))
	told(t, v, 2, row("old", 3), row("u", 2))
	// Of many upcasters, and such as may not be.
	var l []api.Upcast
	for i := range 100 {
		l = append(l, api.Upcast{Type: "added", From: i, Changes: []api.Change{{Kind: api.UScale, Name: "n", F: api.Field{N: -1}}, {Kind: 77}, {Kind: api.UDrop, Name: "m"}}}, api.Upcast{Type: "added", From: i, Changes: []api.Change{{Kind: api.UDrop, Name: "n"}}})
	}
	v = New(p, l)
	takes(t, v, "s", event("added", 0, number("n", 4)), event("added", 99, number("n", 3)), event("added", 100, number("n", 100)))
	told(t, v, 3, row("s", 101))
}

// P17.2: the given fields are the event's as they stand: in any order, the first one of a name, of any names and values.
func TestGivenAsTheyStand(t *testing.T) {
	p := named("p", onto("e", gv("k"), gv("n")), onto("e", gv("\xff A"), gv("")))
	v := New(p, nil)
	takes(t, v, "s", event("e", 0, number("n", 5), words("k", "one"), words("k", "two"), number("n", 7)))
	told(t, v, 1, row("one", 5))
	takes(t, v, "s", event("e", 0, words("z", "z"), words("\xff A", "three"), number("", 2), words("", "four"), number("k", 8)))
	told(t, v, 2, row("one", 5), row("three", 2))
	// A text is one whatever its N is, an integer whatever its S is.
	takes(t, v, "s", api.Event{Type: "e", Fields: []api.Field{{Name: "k", Text: true, N: 9, S: "four"}, {Name: "n", N: 4, S: "x"}}})
	takes(t, v, "s", api.Event{Type: "e", Fields: []api.Field{{Name: "k", N: 9, S: "five"}, {Name: "n", N: 3, S: strings.Repeat("x", 300)}}})
	takes(t, v, "s", api.Event{Type: "e", Fields: []api.Field{{Name: "k", N: 9}, {Name: "n", Text: true, N: 3}}})
	told(t, v, 5, row("9", 3), row("four", 4), row("one", 5), row("three", 2))
	// More fields than may be.
	l := []api.Field{}
	for i := range 100 {
		l = append(l, number(fmt.Sprint("f", i), i))
	}
	takes(t, v, "s", event("e", 0, append(l, words("k", "one"), number("n", 1))...))
	told(t, v, 6, row("9", 3), row("four", 4), row("one", 6), row("three", 2))
}

// P17.2: there is no state, though the given fields have one of that name.
func TestNoState(t *testing.T) {
	v := New(named("p", onto("e", st("k"), gv("n")), onto("e", gv("k"), st("n")), onto("e", ex(api.EJoin, gv("k"), ex(api.EShow, ex(api.EAdd, gv("n"), st("n")))), num(1))), nil)
	takes(t, v, "s", adds("k", 1), adds("k", 1))
	told(t, v, 2)
}

// P17.2: the stream of each entry, as it stands, is what ESelf is.
func TestStreams(t *testing.T) {
	v := New(chapter(), nil)
	streams := []string{"acc", "box", "", "\xff\x00", strings.Repeat("s", 60), strings.Repeat("s", 61), "acc", "Acc", "5"}
	var entries []api.Entry
	for i, stream := range streams {
		entries = append(entries, api.Entry{Pos: i, Stream: stream, Event: given(i + 1)})
		takes(t, v, stream, given(i+1))
	}
	told(t, v, len(streams), plainRows(chapter(), nil, entries)...)
	if n, _ := v.Get("acc"); n != 8 || len(v.Rows()) != 8 {
		t.Errorf("%d, %v", n, v.Rows())
	}
}

// P17.2: views are apart: what one takes no other one has taken.
func TestViewsApart(t *testing.T) {
	p := chapter()
	one, two := New(p, nil), New(p, nil)
	takes(t, one, "acc", given(1))
	told(t, two, 0)
	takes(t, two, "box", given(2), given(3))
	told(t, one, 1, row("acc", 1))
	told(t, two, 2, row("box", 5))
}
