package upcast

import (
	"fmt"
	"math/rand"
	"slices"
	"strings"
	"testing"

	"cartulary/api"
)

// of is one of the things.
func of[T any](r *rand.Rand, l ...T) T { return l[r.Intn(len(l))] }

// in tells whether one of so many times is now.
func in(r *rand.Rand, n int) bool { return r.Intn(n) == 0 }

// names and types are few, so that they meet.
var (
	names = []string{"a", "b", "c", "left", "n"}
	kinds = []string{"done", "given", "taken"}
)

// edges are integers about the bounds.
func edges() []int {
	return []int{0, 1, -1, bound, -bound, bound + 1, -bound - 1, bound / 2, bound/2 + 1, 31_622_776, 31_622_777, 1 << 32, most, least}
}

func drawnInt(r *rand.Rand) int {
	if in(r, 4) {
		return of(r, edges()...)
	}
	return r.Intn(9) - 2
}

// drawnField is one that may be.
func drawnField(r *rand.Rand, name string) api.Field {
	if in(r, 3) {
		return words(name, of(r, "", "x", "5", "\x00\xff", strings.Repeat("y", 200)))
	}
	return number(name, drawnInt(r))
}

// drawnRecord is a record; of some there is little room, or none.
func drawnRecord(r *rand.Rand) (l []api.Field) {
	for _, name := range names {
		if !in(r, 3) {
			l = append(l, drawnField(r, name))
		}
	}
	if in(r, 3) {
		l = append(l, record(of(r, 10, 11, 12, 13, 14, 15, 16))...)
		slices.SortFunc(l, func(a, b api.Field) int { return strings.Compare(a.Name, b.Name) })
		l = l[:min(len(l), 16)]
	}
	return l
}

// drawnList is a list of any fields: names that are there twice, that do not rise, that may not be; values that are of no kind.
func drawnList(r *rand.Rand) (l []api.Field) {
	if in(r, 2) {
		return drawnRecord(r)
	}
	for range of(r, 0, 1, 2, 3, 5, 8, 14, 15, 16, 17, 20) {
		f := drawnField(r, of(r, append([]string{"", "A", "\xff", "z", "f00", "f05"}, names...)...))
		switch r.Intn(12) {
		case 0:
			f.N = r.Intn(3)
		case 1:
			f.S = of(r, "x", strings.Repeat("x", 201))
		case 2:
			f.Text = !f.Text
		}
		l = append(l, f)
	}
	return l
}

// drawnChange is one that may be. What its Kind does not ask for is seldom empty, so that it would be seen.
func drawnChange(r *rand.Rand) api.Change {
	some := append([]string{"f03", "z"}, names...)
	c := api.Change{Kind: of(r, 1, 2, 3, 3, 4, 5, 5), Name: of(r, some...), To: of(r, some...), F: drawnField(r, of(r, some...))}
	if c.Kind != api.UAdd && in(r, 3) {
		c.F.Name, c.F.S = of(r, "", "A", "b"), of(r, "", "x")
	}
	return c
}

// drawnUpcasts are such as may be: of each type a chain, seldom with a gap, in any order.
func drawnUpcasts(r *rand.Rand) (l []api.Upcast) {
	for _, kind := range kinds {
		for version := range r.Intn(6) {
			if in(r, 12) {
				continue
			}
			u := from(kind, version)
			for range r.Intn(5) {
				u.Changes = append(u.Changes, drawnChange(r))
			}
			l = append(l, u)
		}
	}
	if in(r, 8) {
		l = append(l, from(of(r, kinds...), api.MaxVersion-1, drawnChange(r)))
	}
	shuffle(r, l)
	return l
}

func shuffle(r *rand.Rand, l []api.Upcast) {
	r.Shuffle(len(l), func(i, j int) { l[i], l[j] = l[j], l[i] })
}

// spoilUpcast changes one thing of an Upcast, mostly to something wrong.
func spoilUpcast(r *rand.Rand, u *api.Upcast) {
	if len(u.Changes) > 0 && in(r, 2) {
		spoilChange(r, &u.Changes[r.Intn(len(u.Changes))])
		return
	}
	switch r.Intn(3) {
	case 0:
		u.Type = of(r, append([]string{"", "A", strings.Repeat("a", 33)}, kinds...)...)
	case 1:
		u.From = of(r, 0, 1, 2, 3, 4, -1, -2, api.MaxVersion-1, api.MaxVersion, most-1, most, least)
	case 2:
		u.Changes = manyChanges(of(r, 0, 15, 16, 16, 16, 17))
	}
}

func spoilChange(r *rand.Rand, c *api.Change) {
	switch r.Intn(5) {
	case 0:
		c.Kind = r.Intn(10) - 2
	case 1:
		c.Name = of(r, "", "A", "z", "\xff")
	case 2:
		c.To = of(r, "", "A", "z", "\xff")
	case 3:
		c.F.Name = of(r, "", "A", "z", "\xff")
	case 4:
		c.F = of(r, api.Field{Name: "a", S: "x"}, api.Field{Name: "a", Text: true, N: 1}, words("a", strings.Repeat("x", 201)), api.Field{Name: "a", N: drawnInt(r), S: "x"})
	}
}

// spoil changes some things of a list, or puts Upcasts of one Type and From into it.
func spoil(r *rand.Rand, l []api.Upcast) []api.Upcast {
	switch {
	case len(l) == 0 || in(r, 30):
		return append(l, manyUpcasts(of(r, 1, 62, 63, 64, 65))...)
	case in(r, 3):
		u := from(of(r, l...).Type, of(r, l...).From, drawnChange(r))
		return slices.Insert(l, r.Intn(len(l)+1), u)
	}
	spoilUpcast(r, &l[r.Intn(len(l))])
	return l
}

// drawnVersion is mostly one that is brought up; some are below 0, or far above all.
func drawnVersion(r *rand.Rand) int {
	return of(r, 0, 0, 0, 0, 1, 1, 2, 3, 4, 5, 6, -1, -2, 100, api.MaxVersion-1, api.MaxVersion, most-1, most, least)
}

func drawnKind(r *rand.Rand) string {
	return of(r, append([]string{"none", "", "A", "a"}, slices.Concat(kinds, kinds, kinds)...)...)
}

// P14.1, P14.2: upcasters that are drawn, and such as are spoilt once or more often.
func TestDrawnChecks(t *testing.T) {
	r := rand.New(rand.NewSource(1))
	told, latest := map[api.Errno]int{}, map[int]int{}
	for range 20000 {
		l := drawnUpcasts(r)
		isCheck(t, l, api.OK)
		for range 1 + r.Intn(4) {
			l = spoil(r, l)
			isCheck(t, l, plainCheck(l))
			told[Check(l)]++
			kind := drawnKind(r)
			isLatest(t, l, kind, plainLatest(l, kind))
			latest[Latest(l, kind)]++
		}
	}
	for _, e := range []api.Errno{api.OK, api.ErrUpcastMany, api.ErrUpcastName, api.ErrUpcastTwice, api.ErrUpcastForm} {
		if told[e] < 500 {
			t.Errorf("%v was told %d times", e, told[e])
		}
	}
	for n := range 6 {
		if latest[n] < 500 {
			t.Errorf("Latest was %d %d times", n, latest[n])
		}
	}
}

// P14.3: events that are drawn, with upcasters that may be and such as may not, and with any lists of fields.
func TestDrawnEvents(t *testing.T) {
	r := rand.New(rand.NewSource(2))
	steps, changed := map[int]int{}, 0
	for range 60000 {
		l := drawnUpcasts(r)
		for range of(r, 0, 0, 1, 3, 9) {
			l = spoil(r, l)
		}
		e := event(drawnKind(r), drawnVersion(r), drawnList(r)...)
		got := isApply(t, l, e)
		steps[got.Version-e.Version]++
		if !slices.Equal(got.Fields, e.Fields) {
			changed++
		}
	}
	for n := range 6 {
		if steps[n] < 500 {
			t.Errorf("%d steps were done %d times", n, steps[n])
		}
	}
	if changed < 5000 {
		t.Errorf("only %d were changed", changed)
	}
}

// P14.3: each kind of change for itself, on any lists: that it is seen often to do something, and often nothing.
func TestDrawnChanges(t *testing.T) {
	r := rand.New(rand.NewSource(3))
	done := map[string]int{}
	for range 60000 {
		c, fields := drawnChange(r), drawnList(r)
		if in(r, 4) {
			spoilChange(r, &c)
		}
		got := isApply(t, []api.Upcast{from("a", 0, c)}, event("a", 0, fields...))
		done[fmt.Sprint(c.Kind, slices.Equal(got.Fields, fields))]++
	}
	for kind := api.UAdd; kind <= api.UScale; kind++ {
		for _, same := range []bool{false, true} {
			if n := done[fmt.Sprint(kind, same)]; n < 500 {
				t.Errorf("kind %d, the fields stay %v: %d times", kind, same, n)
			}
		}
	}
}

// P14.4: of upcasters that may be and a record the Fields are a record, there is no Upcast any more, and what was brought up stays as it is; so does an event of the version Latest, of any upcasters and fields.
func TestDrawnRecords(t *testing.T) {
	r := rand.New(rand.NewSource(4))
	brought, full := 0, 0
	for range 40000 {
		l := drawnUpcasts(r)
		if in(r, 3) {
			l = spoil(r, l)
		}
		kind := drawnKind(r)
		newest := event(kind, Latest(l, kind), drawnList(r)...)
		brings(t, l, newest, newest)
		if Check(l) != api.OK {
			continue
		}
		e := event(kind, drawnVersion(r), drawnRecord(r)...)
		got := isApply(t, l, e)
		isRecord(t, got.Fields)
		if got.Type != e.Type || plainFind(l, got.Type, got.Version) >= 0 {
			t.Fatalf("%+v comes to %+v: %s", e, got, brief(l))
		}
		brings(t, l, got, got)
		if e.Version == 0 && got.Version != Latest(l, kind) {
			t.Fatalf("%+v comes to %+v, not to version %d", e, got, Latest(l, kind))
		}
		if got.Version != e.Version {
			brought++
		}
		if len(got.Fields) == 16 {
			full++
		}
	}
	if brought < 5000 || full < 1000 {
		t.Errorf("%d were brought up, %d are full", brought, full)
	}
}

// P14.4: upcasters that may be can stand in any order.
func TestDrawnOrders(t *testing.T) {
	r := rand.New(rand.NewSource(5))
	for range 5000 {
		l, e, kind := drawnUpcasts(r), event(drawnKind(r), drawnVersion(r), drawnList(r)...), drawnKind(r)
		want, latest := isApply(t, l, e), Latest(l, kind)
		for range 4 {
			shuffle(r, l)
			isCheck(t, l, api.OK)
			isLatest(t, l, kind, latest)
			brings(t, l, e, want)
		}
	}
}
