package upcast

import (
	"fmt"
	"math/big"
	"regexp"
	"slices"
	"strings"
	"testing"

	"cartulary/api"
	"cartulary/sheet"
)

const (
	most  = 1<<63 - 1
	least = -1 << 63
	bound = 1_000_000_000_000_000
)

// adds, drops, renames, shows, scales are changes of each kind.
func adds(f api.Field) api.Change { return api.Change{Kind: api.UAdd, F: f} }

func drops(name string) api.Change { return api.Change{Kind: api.UDrop, Name: name} }

func renames(name, to string) api.Change { return api.Change{Kind: api.URename, Name: name, To: to} }

func shows(name string) api.Change { return api.Change{Kind: api.UShow, Name: name} }

func scales(name string, n int) api.Change {
	return api.Change{Kind: api.UScale, Name: name, F: api.Field{N: n}}
}

// from is an Upcast.
func from(kind string, version int, l ...api.Change) api.Upcast {
	return api.Upcast{Type: kind, From: version, Changes: l}
}

// event is one; its fields are a list of their own.
func event(kind string, version int, l ...api.Field) api.Event {
	return api.Event{Type: kind, Version: version, Fields: slices.Clone(l)}
}

func number(name string, n int) api.Field { return api.Field{Name: name, N: n} }

func words(name, s string) api.Field { return api.Field{Name: name, Text: true, S: s} }

// record is so many integers of rising names.
func record(n int) []api.Field {
	var l []api.Field
	for i := range n {
		l = append(l, number(fmt.Sprintf("f%02d", i), i))
	}
	return l
}

// manyChanges are so many that may be.
func manyChanges(n int) []api.Change {
	var l []api.Change
	for i := range n {
		l = append(l, scales("n", i))
	}
	return l
}

// manyUpcasts are so many that may be, one behind the other.
func manyUpcasts(n int) []api.Upcast {
	var l []api.Upcast
	for i := range n {
		l = append(l, from("a", i, shows("n")))
	}
	return l
}

// noNames may not be names.
func noNames() []string {
	return []string{"", "A", "0", "_", "a b", "aB", "a\x00", "a\xff", "é", "a=", "a&", strings.Repeat("a", 33), strings.Repeat("a", 288)}
}

// someNames may be.
func someNames() []string {
	return []string{"a", "z", "a0", "a_", "m9_z", strings.Repeat("a", 32)}
}

// The plain ones: the chapter's words, each as a whole, by means that the package has not: all that is wrong is gathered, lists are searched from their beginnings, integers have no bounds, a list of fields is changed in its place.

var aName = regexp.MustCompile(`^[a-z][a-z0-9_]{0,31}$`)

// plainCheck is Check.
func plainCheck(l []api.Upcast) api.Errno {
	wrong := []api.Errno{}
	note := func(e api.Errno, so bool) {
		if so {
			wrong = append(wrong, e)
		}
	}
	note(140, len(l) > 64)
	for _, u := range l {
		note(140, len(u.Changes) > 16)
	}
	for i, u := range l {
		note(141, !aName.MatchString(u.Type))
		note(143, u.From < 0 || u.From > 1<<30-1)
		for _, ahead := range l[:i] {
			note(142, ahead.Type == u.Type && ahead.From == u.From)
		}
		for _, c := range u.Changes {
			note(143, c.Kind <= 0 || c.Kind >= 6)
			note(141, c.Kind == 1 && !aName.MatchString(c.F.Name))
			note(141, c.Kind >= 2 && c.Kind <= 5 && !aName.MatchString(c.Name))
			note(141, c.Kind == 3 && !aName.MatchString(c.To))
			note(143, c.Kind == 1 && c.F.Text && (c.F.N != 0 || len(c.F.S) > 200))
			note(143, c.Kind == 1 && !c.F.Text && len(c.F.S) > 0)
		}
	}
	return append(wrong, 0)[0]
}

// plainFind is where the first Upcast of a type and version stands, or -1.
func plainFind(l []api.Upcast, kind string, version int) int {
	return slices.IndexFunc(l, func(u api.Upcast) bool { return u.Type == kind && u.From == version })
}

// plainLatest is Latest.
func plainLatest(l []api.Upcast, kind string) int {
	version := 0
	for plainFind(l, kind, version) >= 0 {
		version++
	}
	return version
}

// plainApply is Apply, one version after the other.
func plainApply(l []api.Upcast, e api.Event) api.Event {
	at := plainFind(l, e.Type, e.Version)
	if at < 0 {
		return e
	}
	fields := slices.Clone(e.Fields)
	for _, c := range l[at].Changes {
		fields = plainChange(fields, c)
	}
	return plainApply(l, api.Event{Type: e.Type, Version: e.Version + 1, Fields: fields})
}

// plainAt is where the first field of a name stands, or -1.
func plainAt(l []api.Field, name string) int {
	return slices.IndexFunc(l, func(f api.Field) bool { return f.Name == name })
}

// plainPut is a list with a field, whose name none has, ahead of the first one whose name is above it.
func plainPut(l []api.Field, f api.Field) []api.Field {
	at := slices.IndexFunc(l, func(x api.Field) bool { return x.Name > f.Name })
	if at < 0 {
		at = len(l)
	}
	return slices.Insert(l, at, f)
}

// plainChange does a change to a list that is its own.
func plainChange(l []api.Field, c api.Change) []api.Field {
	at := plainAt(l, c.Name)
	switch c.Kind {
	case 1:
		if plainAt(l, c.F.Name) < 0 && len(l) <= 15 {
			return plainPut(l, c.F)
		}
	case 2:
		if at >= 0 {
			return slices.Delete(l, at, at+1)
		}
	case 3:
		if at >= 0 && plainAt(l, c.To) < 0 {
			f := l[at]
			f.Name = c.To
			return plainPut(slices.Delete(l, at, at+1), f)
		}
	case 4:
		if at >= 0 && !l[at].Text {
			l[at] = api.Field{Name: c.Name, Text: true, N: 0, S: fmt.Sprintf("%d", l[at].N)}
		}
	case 5:
		if at >= 0 && !l[at].Text {
			a, b := big.NewInt(int64(l[at].N)), big.NewInt(int64(c.F.N))
			product, edge := new(big.Int).Mul(a, b), big.NewInt(bound)
			if a.CmpAbs(edge) <= 0 && b.CmpAbs(edge) <= 0 && product.CmpAbs(edge) <= 0 {
				l[at] = api.Field{Name: c.Name, Text: false, N: int(product.Int64()), S: ""}
			}
		}
	}
	return l
}

// The calls, held against the plain ones.

// alike tells whether two events are: lists without elements are all the same.
func alike(a, b api.Event) bool {
	return a.Type == b.Type && a.Version == b.Version && slices.Equal(a.Fields, b.Fields)
}

// brief is the beginning of what is told of a thing.
func brief(x any) string {
	s := fmt.Sprintf("%+v", x)
	return s[:min(len(s), 2000)]
}

func isCheck(t *testing.T, l []api.Upcast, want api.Errno) {
	t.Helper()
	if got, plain := Check(l), plainCheck(l); got != want || plain != want {
		t.Fatalf("Check: %v, not %v (%v): %s", got, want, plain, brief(l))
	}
}

func isLatest(t *testing.T, l []api.Upcast, kind string, want int) {
	t.Helper()
	if got, plain := Latest(l, kind), plainLatest(l, kind); got != want || plain != want {
		t.Fatalf("Latest of %q: %d, not %d (%d): %s", kind, got, want, plain, brief(l))
	}
}

func isApply(t *testing.T, l []api.Upcast, e api.Event) api.Event {
	t.Helper()
	want := plainApply(l, e)
	got := Apply(l, e)
	if !alike(got, want) {
		t.Fatalf("Apply of %+v: %+v, not %+v: %s", e, got, want, brief(l))
	}
	return got
}

// brings asks what an event comes to.
func brings(t *testing.T, l []api.Upcast, e, want api.Event) {
	t.Helper()
	if got := isApply(t, l, e); !alike(got, want) {
		t.Errorf("Apply of %+v: %+v, not %+v: %s", e, got, want, brief(l))
	}
}

// does asks what one change does to fields.
func does(t *testing.T, c api.Change, l, want []api.Field) {
	t.Helper()
	brings(t, []api.Upcast{from("a", 0, c)}, event("a", 0, l...), event("a", 1, want...))
}

// stays asks for a change to do nothing to fields.
func stays(t *testing.T, c api.Change, l []api.Field) {
	t.Helper()
	does(t, c, l, l)
}

func isRecord(t *testing.T, l []api.Field) {
	t.Helper()
	if e := sheet.Check(l); e != api.OK {
		t.Fatalf("%v: %+v", e, l)
	}
}

// The errors' numbers, the kinds and the limits.
func TestNumbers(t *testing.T) {
	for i, e := range []api.Errno{api.ErrUpcastMany, api.ErrUpcastName, api.ErrUpcastTwice, api.ErrUpcastForm} {
		if int(e) != 140+i {
			t.Errorf("%d, not %d", int(e), 140+i)
		}
	}
	for i, kind := range []int{api.UAdd, api.UDrop, api.URename, api.UShow, api.UScale} {
		if kind != i+1 {
			t.Errorf("%d, not %d", kind, i+1)
		}
	}
	for i, n := range []int{api.MaxUpcasts, api.MaxParts, api.MaxVersion, api.MaxFields, api.MaxNumber} {
		if n != []int{64, 16, 1 << 30, 16, bound}[i] {
			t.Errorf("limit %d: %d", i, n)
		}
	}
}
