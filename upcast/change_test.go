package upcast

import (
	"slices"
	"strings"
	"testing"

	"cartulary/api"
)

// odd are fields that may not be, called a.
func odd() []api.Field {
	return append(noFields(), api.Field{Name: "a", Text: true, N: 7, S: "y"}, api.Field{Name: "a", N: bound + 1, S: "y"}, api.Field{Name: "a", N: most, S: strings.Repeat("y", 300)})
}

// P14.3: UAdd, of each number of fields, with a field of that name and without.
func TestAdd(t *testing.T) {
	for _, f := range []api.Field{number("f03x", 7), words("f03x", "x"), number("a", -1), words("z", "")} {
		for n := range 21 {
			if n >= 16 {
				stays(t, adds(f), record(n))
				continue
			}
			want := slices.Clone(record(n))
			at := map[string]int{"f03x": min(n, 4), "a": 0, "z": n}[f.Name]
			does(t, adds(f), record(n), slices.Insert(want, at, f))
		}
	}
	for n := 1; n < 20; n++ {
		for _, f := range []api.Field{number("f00", 77), words("f00", "x"), number(record(n)[n-1].Name, 77)} {
			stays(t, adds(f), record(n))
		}
	}
	// The fifteen and the sixteen that the limit speaks of; and a field that gives room.
	does(t, adds(number("z", 1)), record(15), append(record(15), number("z", 1)))
	stays(t, adds(number("z", 1)), record(16))
	brings(t, []api.Upcast{from("a", 0, drops("f00"), adds(number("z", 1)), adds(number("zz", 1)))}, event("a", 0, record(16)...), event("a", 1, append(record(16)[1:], number("z", 1))...))
}

// P14.3: UAdd takes the field as it is, and looks at neither Name nor To.
func TestAddAny(t *testing.T) {
	for _, f := range odd() {
		does(t, adds(f), []api.Field{number("b", 1)}, []api.Field{f, number("b", 1)})
		stays(t, adds(f), []api.Field{words("a", "was")})
		f.Name = ""
		does(t, adds(f), []api.Field{number("b", 1)}, []api.Field{f, number("b", 1)})
		f.Name = "\xff"
		does(t, adds(f), []api.Field{number("b", 1)}, []api.Field{number("b", 1), f})
	}
	c := adds(number("m", 1))
	c.Name, c.To = "b", "b"
	does(t, c, []api.Field{number("b", 1)}, []api.Field{number("b", 1), number("m", 1)})
	c.Name, c.To = "m", "m"
	does(t, c, []api.Field{number("b", 1)}, []api.Field{number("b", 1), number("m", 1)})
	// In a list that is no record it goes ahead of the first name that is above it.
	does(t, adds(number("m", 1)), []api.Field{number("z", 1), number("a", 2), number("z", 3)}, []api.Field{number("m", 1), number("z", 1), number("a", 2), number("z", 3)})
	does(t, adds(number("m", 1)), []api.Field{number("b", 1), number("a", 2), number("z", 3)}, []api.Field{number("b", 1), number("a", 2), number("m", 1), number("z", 3)})
	stays(t, adds(number("m", 1)), []api.Field{number("z", 1), number("m", 2)})
}

// P14.3: UDrop.
func TestDrop(t *testing.T) {
	for n := range 20 {
		for at := range n {
			does(t, drops(record(n)[at].Name), record(n), slices.Concat(record(n)[:at], record(n)[at+1:]))
		}
		for _, name := range []string{"", "a", "f", "f000", "z", "F00"} {
			stays(t, drops(name), record(n))
		}
	}
	for _, f := range odd() {
		does(t, drops("a"), []api.Field{f, number("b", 1)}, []api.Field{number("b", 1)})
	}
	does(t, drops("a"), []api.Field{number("b", 1), number("a", 2), number("c", 3), number("a", 4)}, []api.Field{number("b", 1), number("c", 3), number("a", 4)})
	does(t, drops(""), []api.Field{number("b", 1), {}}, []api.Field{number("b", 1)})
	c := drops("a")
	c.To, c.F = "b", number("b", 2)
	does(t, c, []api.Field{number("a", 1), number("b", 1)}, []api.Field{number("b", 1)})
}

// P14.3: URename, with and without Name, with and without To.
func TestRename(t *testing.T) {
	for n := range 20 {
		for at := range n {
			old := record(n)[at]
			rest := slices.Concat(record(n)[:at], record(n)[at+1:])
			does(t, renames(old.Name, "a"), record(n), append([]api.Field{number("a", old.N)}, rest...))
			does(t, renames(old.Name, "z"), record(n), append(rest, number("z", old.N)))
			does(t, renames(old.Name, old.Name+"x"), record(n), slices.Concat(record(n)[:at], []api.Field{number(old.Name+"x", old.N)}, record(n)[at+1:]))
			stays(t, renames(old.Name, old.Name), record(n))
			stays(t, renames("none", old.Name), record(n))
			for other := range n {
				stays(t, renames(old.Name, record(n)[other].Name), record(n))
			}
		}
		stays(t, renames("none", "neither"), record(n))
		stays(t, renames("none", "none"), record(n))
		stays(t, renames("", ""), record(n))
	}
	does(t, renames("n", "a"), []api.Field{words("m", "x"), words("n", "y")}, []api.Field{words("a", "y"), words("m", "x")})
}

// P14.3: URename in lists that are no records, of fields that may not be, and to such names.
func TestRenameAny(t *testing.T) {
	for _, f := range odd() {
		to := f
		to.Name = "c"
		does(t, renames("a", "c"), []api.Field{f, number("b", 1)}, []api.Field{number("b", 1), to})
		stays(t, renames("b", "a"), []api.Field{f, number("b", 1)})
	}
	l := []api.Field{number("c", 1), number("a", 2), number("b", 3), number("a", 4)}
	does(t, renames("a", "bb"), l, []api.Field{number("bb", 2), number("c", 1), number("b", 3), number("a", 4)})
	does(t, renames("a", "d"), l, []api.Field{number("c", 1), number("b", 3), number("a", 4), number("d", 2)})
	stays(t, renames("a", "c"), l)
	stays(t, renames("a", "a"), l)
	does(t, renames("a", ""), l, []api.Field{number("", 2), number("c", 1), number("b", 3), number("a", 4)})
	does(t, renames("b", "\xff"), l, []api.Field{number("c", 1), number("a", 2), number("a", 4), number("\xff", 3)})
	does(t, renames("", "b"), []api.Field{number("a", 1), number("", 2)}, []api.Field{number("a", 1), number("b", 2)})
	// Of 17 fields too: there are not more than before.
	does(t, renames("f00", "z"), record(17), append(record(17)[1:], number("z", 0)))
	c := renames("a", "z")
	c.F = number("f", 9)
	does(t, c, []api.Field{number("a", 1)}, []api.Field{number("z", 1)})
}

// P14.3: UShow.
func TestShow(t *testing.T) {
	for n, s := range map[int]string{0: "0", 1: "1", -1: "-1", 9: "9", 10: "10", -10: "-10", 100: "100", bound: "1000000000000000", -bound: "-1000000000000000", bound + 1: "1000000000000001", -bound - 1: "-1000000000000001", most: "9223372036854775807", least: "-9223372036854775808"} {
		does(t, shows("n"), []api.Field{number("m", 1), number("n", n), number("o", 2)}, []api.Field{number("m", 1), words("n", s), number("o", 2)})
		// What is no integer's is gone then.
		does(t, shows("n"), []api.Field{{Name: "n", N: n, S: "x"}}, []api.Field{words("n", s)})
		does(t, shows("n"), []api.Field{{Name: "n", N: n, S: strings.Repeat("x", 201)}}, []api.Field{words("n", s)})
	}
	for _, f := range []api.Field{words("n", ""), words("n", "5"), words("n", "x"), {Name: "n", Text: true, N: 5, S: "x"}, {Name: "n", Text: true, N: 5}, words("n", strings.Repeat("x", 201))} {
		stays(t, shows("n"), []api.Field{f})
		stays(t, shows("n"), []api.Field{number("m", 1), f})
	}
	for _, name := range []string{"", "n", "N", "f", "\xff"} {
		stays(t, shows(name), record(3))
		stays(t, shows(name), nil)
	}
	does(t, shows("a"), []api.Field{number("b", 1), number("a", 2), number("a", 3)}, []api.Field{number("b", 1), words("a", "2"), number("a", 3)})
	stays(t, shows("a"), []api.Field{words("a", "x"), number("a", 3)})
	does(t, shows(""), []api.Field{number("b", 1), {N: 4}}, []api.Field{number("b", 1), words("", "4")})
	does(t, shows("f16"), record(17), append(record(16), words("f16", "16")))
	c := shows("n")
	c.To, c.F = "m", number("m", 9)
	does(t, c, []api.Field{number("m", 1), number("n", 2)}, []api.Field{number("m", 1), words("n", "2")})
}

// P14.3: UScale, of the integer, of F.N and of the product at the edges: the first ones lie within them, the others beyond.
func TestScaleEdges(t *testing.T) {
	for _, x := range []struct{ n, by, want int }{
		{3, 100, 300}, {3, -100, -300}, {-3, -100, 300}, {3, 1, 3}, {3, 0, 0}, {0, 3, 0}, {0, 0, 0}, {-1, -1, 1},
		{bound, 1, bound}, {-bound, 1, -bound}, {bound, -1, -bound}, {-bound, -1, bound}, {bound, 0, 0}, {-bound, 0, 0},
		{1, bound, bound}, {1, -bound, -bound}, {-1, bound, -bound}, {-1, -bound, bound}, {0, bound, 0}, {0, -bound, 0},
		{bound / 2, 2, bound}, {2, -bound / 2, -bound}, {10_000_000, 100_000_000, bound}, {31_622_776, 31_622_776, 999_999_961_946_176},
		{bound - 1, 1, bound - 1}, {333_333_333_333_333, 3, bound - 1}, {333_333_333_333_333, -3, 1 - bound},
	} {
		does(t, scales("n", x.by), []api.Field{number("n", x.n)}, []api.Field{number("n", x.want)})
		does(t, scales("n", x.by), []api.Field{number("m", 1), {Name: "n", N: x.n, S: "x"}, number("o", 1)}, []api.Field{number("m", 1), number("n", x.want), number("o", 1)})
	}
	for _, x := range [][2]int{
		{bound + 1, 1}, {-bound - 1, 1}, {bound + 1, -1}, {bound + 1, 0}, {-bound - 1, 0}, {most, 0}, {least, 0}, {most, 1}, {least, 1}, {least, -1},
		{bound, 2}, {-bound, 2}, {bound, -2}, {bound, bound}, {-bound, bound}, {-bound, -bound}, {bound/2 + 1, 2}, {333_333_333_333_334, 3},
		{1001, 999_000_999_001}, {-1001, 999_000_999_001}, {7, 142_857_142_857_143}, {7, -142_857_142_857_143}, {31_622_777, 31_622_777},
		{1 << 32, 1 << 32}, {1 << 31, 1 << 33}, {-1 << 32, 1 << 32}, {1 << 32, 1<<32 + 1}, {1 << 40, 1 << 24}, {3_037_000_500, 3_037_000_500}, {4_294_967_296, 4_294_967_297},
		{most, most}, {least, least}, {most, least}, {most, 2}, {least, 2},
	} {
		for _, y := range [][2]int{x, {x[1], x[0]}} {
			stays(t, scales("n", y[1]), []api.Field{number("n", y[0])})
			stays(t, scales("n", y[1]), []api.Field{number("m", 1), {Name: "n", N: y[0], S: "x"}})
		}
	}
}

// P14.3: UScale of what is no integer, or not there; and of F nothing counts but N.
func TestScaleAny(t *testing.T) {
	for _, f := range []api.Field{words("n", ""), words("n", "5"), words("n", "x"), {Name: "n", Text: true, N: 5, S: "x"}, {Name: "n", Text: true, N: 5}, words("n", strings.Repeat("x", 201))} {
		for _, by := range []int{0, 1, 2, -1, bound, most} {
			stays(t, scales("n", by), []api.Field{f})
			stays(t, scales("n", by), []api.Field{number("m", 1), f})
		}
	}
	for _, name := range []string{"", "n", "N", "f", "\xff"} {
		stays(t, scales(name, 2), record(3))
		stays(t, scales(name, 2), nil)
	}
	does(t, scales("a", 5), []api.Field{number("b", 1), number("a", 2), number("a", 3)}, []api.Field{number("b", 1), number("a", 10), number("a", 3)})
	stays(t, scales("a", 5), []api.Field{words("a", "x"), number("a", 3)})
	does(t, scales("", 2), []api.Field{number("b", 1), {N: 4}}, []api.Field{number("b", 1), number("", 8)})
	does(t, scales("f16", 2), record(17), append(record(16), number("f16", 32)))
	c := api.Change{Kind: api.UScale, Name: "n", To: "m", F: api.Field{Name: "m", Text: true, N: 3, S: "x"}}
	does(t, c, []api.Field{number("m", 1), number("n", 2)}, []api.Field{number("m", 1), number("n", 6)})
}

// P14.3: a Kind that is none does nothing; the version is one more, and the other changes are done.
func TestNoKind(t *testing.T) {
	for _, kind := range []int{0, -1, 6, 7, 257, 1<<32 + 1, most, least} {
		c := api.Change{Kind: kind, Name: "n", To: "m", F: number("o", 2)}
		stays(t, c, []api.Field{number("n", 1)})
		stays(t, c, nil)
		brings(t, []api.Upcast{from("a", 0, scales("n", 2), c, scales("n", 3))}, event("a", 0, number("n", 1)), event("a", 1, number("n", 6)))
	}
}
