package upcast

import (
	"slices"
	"strings"
	"testing"

	"cartulary/api"
)

// P14.1: so many Upcasts.
func TestCheckUpcasts(t *testing.T) {
	isCheck(t, nil, api.OK)
	isCheck(t, []api.Upcast{}, api.OK)
	for _, n := range []int{0, 1, 2, 63, 64, 65, 66, 320, 1000} {
		want := api.OK
		if n > 64 {
			want = api.ErrUpcastMany
		}
		isCheck(t, manyUpcasts(n), want)
	}
	isCheck(t, manyUpcasts(70)[:64], api.OK)
	isCheck(t, make([]api.Upcast, 64), api.ErrUpcastName)
	isCheck(t, make([]api.Upcast, 65), api.ErrUpcastMany)
}

// P14.1: so many Changes, of each Upcast of few and of many.
func TestCheckChanges(t *testing.T) {
	for _, upcasts := range []int{1, 2, 3, 64} {
		for at := range upcasts {
			for _, n := range []int{0, 1, 15, 16, 17, 18, 272} {
				want := api.OK
				if n > 16 {
					want = api.ErrUpcastMany
				}
				l := manyUpcasts(upcasts)
				l[at].Changes = manyChanges(n)
				isCheck(t, l, want)
			}
		}
	}
	isCheck(t, []api.Upcast{from("a", 0, manyChanges(30)[:16]...)}, api.OK)
	isCheck(t, []api.Upcast{{Type: "a", Changes: make([]api.Change, 16)}}, api.ErrUpcastForm)
	isCheck(t, []api.Upcast{{Type: "a", Changes: make([]api.Change, 17)}}, api.ErrUpcastMany)
	// As many as may be of all.
	full := manyUpcasts(64)
	for i := range full {
		full[i].Changes = manyChanges(16)
	}
	isCheck(t, full, api.OK)
}

// P14.1: the Type.
func TestCheckType(t *testing.T) {
	for _, s := range someNames() {
		isCheck(t, []api.Upcast{from(s, 0)}, api.OK)
		isCheck(t, []api.Upcast{from("b", 0), from(s, 7, shows("n"))}, api.OK)
	}
	for _, s := range noNames() {
		isCheck(t, []api.Upcast{from(s, 0)}, api.ErrUpcastName)
		isCheck(t, []api.Upcast{from("b", 0), from(s, 7, shows("n"))}, api.ErrUpcastName)
	}
}

// P14.1: From.
func TestCheckFrom(t *testing.T) {
	for _, n := range []int{0, 1, 2, 64, 1 << 16, api.MaxVersion - 2, api.MaxVersion - 1} {
		isCheck(t, []api.Upcast{from("a", n)}, api.OK)
		isCheck(t, []api.Upcast{from("b", 0), from("a", n, shows("n"))}, api.OK)
	}
	for _, n := range []int{-1, -2, least, least + 1, -api.MaxVersion, -1 << 32, api.MaxVersion, api.MaxVersion + 1, 1 << 31, 1 << 32, 1<<32 + 1, most - 1, most} {
		isCheck(t, []api.Upcast{from("a", n)}, api.ErrUpcastForm)
		isCheck(t, []api.Upcast{from("b", 0), from("a", n, shows("n"))}, api.ErrUpcastForm)
	}
}

// P14.1: two Upcasts of one Type and From, at each two places.
func TestCheckTwice(t *testing.T) {
	for _, n := range []int{2, 3, 7, 64} {
		for i := range n {
			for j := range i {
				l := manyUpcasts(n)
				l[i].From = l[j].From
				isCheck(t, l, api.ErrUpcastTwice)
				l[i].Type = "b"
				isCheck(t, l, api.OK)
			}
		}
	}
	a, b := from("a", 3, shows("n")), from("a", 3, drops("m"))
	isCheck(t, []api.Upcast{a, b}, api.ErrUpcastTwice)
	isCheck(t, []api.Upcast{a, a, a}, api.ErrUpcastTwice)
	isCheck(t, []api.Upcast{a, from("b", 3), b}, api.ErrUpcastTwice)
	// Of one only, it is not so; what stands behind each other in both must not run together.
	isCheck(t, []api.Upcast{a, from("a", 2), from("b", 3), from("a3", 0), from("a", 30), from("a3", 3), from("aa", 3)}, api.OK)
}

// P14.1: each Kind, and others.
func TestCheckKind(t *testing.T) {
	for kind := -3; kind < 20; kind++ {
		c := api.Change{Kind: kind, Name: "a", To: "b", F: words("c", "x")}
		want := api.ErrUpcastForm
		if kind >= 1 && kind <= 5 {
			want = api.OK
		}
		isCheck(t, []api.Upcast{from("a", 0, c)}, want)
		isCheck(t, []api.Upcast{from("a", 0, shows("n"), c)}, want)
		// Of a Kind that is none no name is looked at.
		if want != api.OK {
			isCheck(t, []api.Upcast{from("a", 0, api.Change{Kind: kind})}, want)
			isCheck(t, []api.Upcast{from("a", 0, api.Change{Kind: kind, Name: "A", To: "B", F: words("C", "x")})}, want)
		}
	}
	for _, kind := range []int{least, most, 1 << 32, 1<<32 + 1, 256, 257, -255} {
		isCheck(t, []api.Upcast{from("a", 0, api.Change{Kind: kind, Name: "a", To: "b", F: number("c", 1)})}, api.ErrUpcastForm)
	}
}

// spots are where a change has names.
func spots(c *api.Change) map[string]*string {
	return map[string]*string{"F.Name": &c.F.Name, "Name": &c.Name, "To": &c.To}
}

// P14.1: a name that may be, and one that may not, in each place, of each Kind: only that is wrong which its Kind asks for.
func TestCheckNames(t *testing.T) {
	asks := [][]string{api.UAdd: {"F.Name"}, api.UDrop: {"Name"}, api.URename: {"Name", "To"}, api.UShow: {"Name"}, api.UScale: {"Name"}}
	for kind := api.UAdd; kind <= api.UScale; kind++ {
		for _, spot := range []string{"F.Name", "Name", "To"} {
			for _, s := range noNames() {
				c := api.Change{Kind: kind, Name: "a", To: "b", F: number("c", 1)}
				*spots(&c)[spot] = s
				want := api.OK
				if slices.Contains(asks[kind], spot) {
					want = api.ErrUpcastName
				}
				isCheck(t, []api.Upcast{from("a", 0, c)}, want)
				isCheck(t, []api.Upcast{from("b", 0), from("a", 0, shows("n"), c, shows("n"))}, want)
			}
			for _, s := range someNames() {
				c := api.Change{Kind: kind, Name: "a", To: "b", F: number("c", 1)}
				*spots(&c)[spot] = s
				isCheck(t, []api.Upcast{from("a", 0, c)}, api.OK)
			}
		}
		// All that it does not ask for may be wrong at once.
		c := api.Change{Kind: kind, Name: "A", To: "B", F: words("C", strings.Repeat("x", 201))}
		if kind == api.UAdd {
			c.F = number("c", 1)
		}
		for _, spot := range asks[kind] {
			*spots(&c)[spot] = "c"
		}
		isCheck(t, []api.Upcast{from("a", 0, c)}, api.OK)
	}
	isCheck(t, []api.Upcast{from("a", 0, renames("a", "a"))}, api.OK)
}

// noFields are fields whose name may be, and whose value may not.
func noFields() []api.Field {
	return []api.Field{
		{Name: "a", S: "x"},
		{Name: "a", N: 1, S: "x"},
		{Name: "a", S: "\x00"},
		{Name: "a", Text: true, N: 1},
		{Name: "a", Text: true, N: -1, S: "x"},
		{Name: "a", Text: true, N: least},
		{Name: "a", Text: true, S: strings.Repeat("x", 201)},
		{Name: "a", Text: true, S: strings.Repeat("x", 456)},
	}
}

// P14.1: of UAdd the field; of the other kinds it is not looked at.
func TestCheckField(t *testing.T) {
	for _, f := range []api.Field{number("a", 0), number("a", 1), number("a", most), number("a", least), number("a", bound+1), words("a", ""), words("a", "\x00\xff"), words("a", strings.Repeat("x", 200))} {
		isCheck(t, []api.Upcast{from("a", 0, adds(f))}, api.OK)
	}
	for _, f := range noFields() {
		isCheck(t, []api.Upcast{from("a", 0, adds(f))}, api.ErrUpcastForm)
		isCheck(t, []api.Upcast{from("b", 0), from("a", 0, shows("n"), adds(f))}, api.ErrUpcastForm)
		// The name is looked at first.
		for _, s := range noNames() {
			bad := f
			bad.Name = s
			isCheck(t, []api.Upcast{from("a", 0, adds(bad))}, api.ErrUpcastName)
		}
		for kind := api.UDrop; kind <= api.UScale; kind++ {
			isCheck(t, []api.Upcast{from("a", 0, api.Change{Kind: kind, Name: "a", To: "b", F: f})}, api.OK)
			isCheck(t, []api.Upcast{from("a", 0, api.Change{Kind: kind, Name: "A", To: "b", F: f})}, api.ErrUpcastName)
		}
	}
	isCheck(t, []api.Upcast{from("a", 0, scales("a", most), scales("a", least), scales("a", 0))}, api.OK)
}

// badChanges are changes that are wrong, each with what of it is told.
func badChanges() map[string]api.Errno {
	return map[string]api.Errno{"kind": api.ErrUpcastForm, "add name": api.ErrUpcastName, "add value": api.ErrUpcastForm, "name": api.ErrUpcastName, "to": api.ErrUpcastName}
}

func badChange(what string) api.Change {
	switch what {
	case "kind":
		return api.Change{Kind: 6, Name: "a", To: "b", F: number("c", 1)}
	case "add name":
		return adds(number("C", 1))
	case "add value":
		return adds(api.Field{Name: "c", S: "x"})
	case "name":
		return drops("A")
	}
	return renames("a", "B")
}

// P14.1: of several Changes that are wrong the first one counts, of each two at each two places.
func TestFirstChange(t *testing.T) {
	for one, want := range badChanges() {
		for two := range badChanges() {
			for i := range 16 {
				for j := i + 1; j < 16; j++ {
					l := manyUpcasts(2)
					l[1].Changes = manyChanges(16)
					l[1].Changes[i], l[1].Changes[j] = badChange(one), badChange(two)
					isCheck(t, l, want)
				}
			}
		}
	}
}

// badHeads spoil an Upcast; twice makes it one that was ahead of it.
func badHeads() map[string]func(u *api.Upcast) {
	return map[string]func(u *api.Upcast){
		"type":  func(u *api.Upcast) { u.Type = "A" },
		"below": func(u *api.Upcast) { u.From = -1 },
		"above": func(u *api.Upcast) { u.From = api.MaxVersion },
		"twice": func(u *api.Upcast) { u.Type, u.From = "first", 0 },
	}
}

func headError(what string) api.Errno {
	return map[string]api.Errno{"type": api.ErrUpcastName, "below": api.ErrUpcastForm, "above": api.ErrUpcastForm, "twice": api.ErrUpcastTwice}[what]
}

// led are so many Upcasts behind one that may be there twice.
func led(n int) []api.Upcast { return append([]api.Upcast{from("first", 0)}, manyUpcasts(n)...) }

// P14.1: within an Upcast the Type is told ahead of From, From ahead of Twice, and all of these ahead of its Changes.
func TestOrderWithin(t *testing.T) {
	for what, spoil := range badHeads() {
		for change := range badChanges() {
			l := led(3)
			l[2].Changes = []api.Change{badChange(change), shows("n")}
			spoil(&l[2])
			isCheck(t, l, headError(what))
		}
	}
	l := led(3)
	l[2].Type, l[2].From = "A", -1
	isCheck(t, l, api.ErrUpcastName)
	// Of two that are wrong in their heads the first one is told, also where the second is there twice by that.
	isCheck(t, []api.Upcast{from("A", 0), from("A", 0)}, api.ErrUpcastName)
	isCheck(t, []api.Upcast{from("a", -1), from("a", -1)}, api.ErrUpcastForm)
	isCheck(t, []api.Upcast{from("a", 0), from("a", 0), from("A", -1)}, api.ErrUpcastTwice)
	isCheck(t, []api.Upcast{from("a", 0), from("a", 0, drops("A"))}, api.ErrUpcastTwice)
	isCheck(t, []api.Upcast{from("a", 0, drops("A")), from("a", 0)}, api.ErrUpcastName)
	isCheck(t, []api.Upcast{from("a", 0, api.Change{}), from("a", 0)}, api.ErrUpcastForm)
}

// spoilt is what is done to an Upcast to make it wrong, each with what is told of it.
type spoilt struct {
	what string
	do   func(u *api.Upcast)
	e    api.Errno
}

func allSpoilt() (l []spoilt) {
	for what, do := range badHeads() {
		l = append(l, spoilt{what, do, headError(what)})
	}
	for what, e := range badChanges() {
		l = append(l, spoilt{what, func(u *api.Upcast) { u.Changes = []api.Change{shows("n"), badChange(what)} }, e})
	}
	slices.SortFunc(l, func(a, b spoilt) int { return strings.Compare(a.what, b.what) })
	return l
}

// P14.1: of several Upcasts that are wrong the first one counts, of each two errors at each two places of few.
func TestFirstUpcast(t *testing.T) {
	for _, one := range allSpoilt() {
		for _, two := range allSpoilt() {
			for i := 1; i < 5; i++ {
				for j := i + 1; j < 5; j++ {
					l := led(4)
					one.do(&l[i])
					two.do(&l[j])
					isCheck(t, l, one.e)
				}
			}
		}
	}
}

// P14.1: Many is ahead of all, wherever it and what else is wrong stand.
func TestManyFirst(t *testing.T) {
	for _, one := range allSpoilt() {
		for _, n := range []int{5, 64} {
			for at := 1; at < n; at++ {
				for _, full := range []int{0, 1, at, n - 1} {
					l := led(n - 1)
					one.do(&l[at])
					isCheck(t, l, one.e)
					l[full].Changes = append(l[full].Changes, manyChanges(17)...)
					isCheck(t, l, api.ErrUpcastMany)
				}
			}
		}
		for at := 1; at < 65; at++ {
			l := led(64)
			one.do(&l[at])
			isCheck(t, l, api.ErrUpcastMany)
		}
	}
}

// P14.1: a wrong Change behind sixteen is one too many, and told so.
func TestManyChangesFirst(t *testing.T) {
	for what := range badChanges() {
		for at := range 17 {
			l := manyChanges(17)
			l[at] = badChange(what)
			isCheck(t, []api.Upcast{from("a", 0, l...)}, api.ErrUpcastMany)
		}
	}
}
