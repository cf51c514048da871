package sheet

import (
	"math/rand"
	"slices"
	"strings"
	"testing"

	"cartulary/api"
)

// isGet, isSet and isDrop hold a call against the plain one.
func isGet(t *testing.T, r []api.Field, name string) {
	t.Helper()
	want, ask := plainGet(r, name)
	if f, ok := Get(r, name); f != want || ok != ask {
		t.Fatalf("Get(%+v, %q): %+v, %v, not %+v, %v", r, name, f, ok, want, ask)
	}
}

func isSet(t *testing.T, r []api.Field, f api.Field) []api.Field {
	t.Helper()
	got := Set(r, f)
	if want := plainSet(r, f); !slices.Equal(got, want) {
		t.Fatalf("Set(%+v, %+v): %+v, not %+v", r, f, got, want)
	}
	return got
}

func isDrop(t *testing.T, r []api.Field, name string) []api.Field {
	t.Helper()
	got := Drop(r, name)
	if want := plainDrop(r, name); !slices.Equal(got, want) {
		t.Fatalf("Drop(%+v, %q): %+v, not %+v", r, name, got, want)
	}
	return got
}

// numbered are fields of names, each with its place as its number.
func numbered(names ...string) []api.Field {
	var r []api.Field
	for i, name := range names {
		r = append(r, number(name, i))
	}
	return r
}

// namesOf are a list's names and numbers, as they stand.
func namesOf(r []api.Field) string {
	var l []string
	for _, f := range r {
		l = append(l, f.Name+strings.Repeat("'", f.N))
	}
	return strings.Join(l, " ")
}

// P12.4: Get tells the first field of a name, whatever the list is.
func TestGet(t *testing.T) {
	r := []api.Field{text("b", "x"), number("a", 1), number("b", 2), {Name: "", N: 3, S: "y"}, {Name: "C", Text: true, N: 4}, number("a", 5)}
	for name, want := range map[string]api.Field{"b": r[0], "a": r[1], "": r[3], "C": r[4]} {
		if f, ok := Get(r, name); f != want || !ok {
			t.Errorf("Get %q: %+v, %v", name, f, ok)
		}
	}
	for _, name := range []string{"c", "B", "aa", "b ", "\x00", strings.Repeat("a", 100)} {
		if f, ok := Get(r, name); f != (api.Field{}) || ok {
			t.Errorf("Get %q: %+v, %v", name, f, ok)
		}
	}
	for _, name := range []string{"", "a"} {
		if f, ok := Get(nil, name); f != (api.Field{}) || ok {
			t.Errorf("Get %q of nothing: %+v, %v", name, f, ok)
		}
	}
	for i, f := range record(16) {
		if g, ok := Get(record(16), f.Name); g != f || !ok {
			t.Errorf("%d: %+v, %v", i, g, ok)
		}
	}
}

// P12.4: Set puts a field in the place of the first one of its name, else ahead of the first one above it, else at the end.
func TestSet(t *testing.T) {
	for _, row := range []struct{ names, name, want string }{
		{"", "a", "a'''''''''"},
		{"b", "a", "a''''''''' b"},
		{"b", "c", "b c'''''''''"},
		{"b", "b", "b'''''''''"},
		{"b d", "c", "b c''''''''' d'"},
		{"b d", "d", "b d'''''''''"},
		{"b b", "b", "b''''''''' b'"},
		{"a b c b", "b", "a b''''''''' c'' b'''"},
		{"c a", "b", "b''''''''' c a'"},
		{"a c b d", "bb", "a bb''''''''' c' b'' d'''"},
		{"d c b a", "c", "d c''''''''' b'' a'''"},
		{"d c b a", "e", "d c' b'' a''' e'''''''''"},
		{"a d b", "c", "a c''''''''' d' b''"},
		{"d a c", "c", "d a' c'''''''''"},
		{"a c", "B", "B''''''''' a c'"},
		{"a c", "a0", "a a0''''''''' c'"},
		{"a0 a_ aa", "a1", "a0 a1''''''''' a_' aa''"},
		{"a a_", "a_a", "a a_' a_a'''''''''"},
	} {
		var r []api.Field
		if row.names != "" {
			r = numbered(strings.Split(row.names, " ")...)
		}
		if got := namesOf(isSet(t, r, number(row.name, 9))); got != row.want {
			t.Errorf("Set %q in %q: %q, not %q", row.name, row.names, got, row.want)
		}
	}
	// Nothing is checked: neither names, nor values, nor how many there are.
	r := isSet(t, nil, api.Field{Name: "", N: 7, S: "x"})
	r = isSet(t, r, api.Field{Name: "\xff", Text: true, N: 7, S: strings.Repeat("x", 300)})
	r = isSet(t, r, api.Field{})
	if len(r) != 2 || r[0] != (api.Field{}) {
		t.Errorf("%+v", r)
	}
	if r = isSet(t, record(16), number("a", 1)); len(r) != 17 || r[0] != number("a", 1) {
		t.Errorf("%+v", r)
	}
	if r = isSet(t, record(40), number("g", 1)); len(r) != 41 || r[40] != number("g", 1) {
		t.Errorf("%+v", r)
	}
	// The whole field is put, its kind too.
	if r = isSet(t, record(4), text("f02", "x")); len(r) != 4 || r[2] != text("f02", "x") {
		t.Errorf("%+v", r)
	}
}

// P12.4: Drop takes the first field of a name away, and no other.
func TestDrop(t *testing.T) {
	for _, row := range []struct{ names, name, want string }{
		{"", "a", ""},
		{"a", "a", ""},
		{"a", "b", "a"},
		{"a b c", "a", "b' c''"},
		{"a b c", "b", "a c''"},
		{"a b c", "c", "a b'"},
		{"a b c", "d", "a b' c''"},
		{"a b c", "", "a b' c''"},
		{"a b c", "A", "a b' c''"},
		{"b a b a", "a", "b b'' a'''"},
		{"b a b a", "b", "a' b'' a'''"},
		{"a a a", "a", "a' a''"},
		{"d c b a", "b", "d c' a'''"},
	} {
		var r []api.Field
		if row.names != "" {
			r = numbered(strings.Split(row.names, " ")...)
		}
		if got := namesOf(isDrop(t, r, row.name)); got != row.want {
			t.Errorf("Drop %q of %q: %q, not %q", row.name, row.names, got, row.want)
		}
	}
	r := []api.Field{{Name: "", S: "x"}, {Name: "a"}, {Name: ""}}
	if got := isDrop(t, r, ""); !slices.Equal(got, r[1:]) {
		t.Errorf("%+v", got)
	}
	for i, f := range record(17) {
		if got := isDrop(t, record(17), f.Name); len(got) != 16 || slices.Contains(got, f) {
			t.Errorf("%d: %+v", i, got)
		}
	}
}

// P12.4: lists that are drawn, of few names, so that they are there twice and do not rise.
func TestDrawnLists(t *testing.T) {
	r := rand.New(rand.NewSource(1))
	names := []string{"", "a", "a0", "a_", "aa", "b", "B", "c", "\x00", "\xff"}
	for range 20000 {
		var l []api.Field
		for range r.Intn(8) {
			l = append(l, api.Field{Name: drawn(r, names...), Text: r.Intn(2) == 0, N: r.Intn(5), S: drawn(r, "", "x", "y")})
		}
		if r.Intn(3) == 0 {
			slices.SortStableFunc(l, func(a, b api.Field) int { return strings.Compare(a.Name, b.Name) })
		}
		f := api.Field{Name: drawn(r, names...), N: 9}
		isGet(t, l, f.Name)
		isGet(t, isSet(t, l, f), f.Name)
		isDrop(t, l, f.Name)
	}
}

// P12.5: of a record Set of a field that may be is a record, or has one field too many, and Get tells it then; of what Drop leaves too.
func TestSetRecord(t *testing.T) {
	r := rand.New(rand.NewSource(2))
	full := 0
	for range 8000 {
		l := drawnRecord(r)
		f := drawnField(r)
		if len(l) > 0 && r.Intn(3) == 0 {
			f.Name = drawn(r, l...).Name
		}
		_, there := Get(l, f.Name)
		out := isSet(t, l, f)
		want := api.OK
		if len(l) == 16 && !there {
			want, full = api.ErrFormMany, full+1
		}
		isCheck(t, out, want)
		if g, ok := Get(out, f.Name); g != f || !ok {
			t.Fatalf("Get of what Set %+v: %+v, %v", f, g, ok)
		}
		isCheck(t, isDrop(t, l, f.Name), api.OK)
		isCheck(t, isDrop(t, out, f.Name), api.OK)
	}
	if full < 100 {
		t.Errorf("only %d were full", full)
	}
}
