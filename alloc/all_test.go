package alloc

import (
	"math/rand"
	"slices"
	"testing"

	"cartulary/api"
)

// striped is a map of ten blocks of which 0, 3 to 5 and 8 are in use, and were.
func striped(t *testing.T) *Map {
	t.Helper()
	m := New(10)
	takes(t, m, 10, run(0, 10))
	gives(t, m, api.OK, run(1, 2), run(6, 2), run(9, 1))
	m.Commit()
	return m
}

// P5.4
func TestAll(t *testing.T) {
	all := runs(run(1, 2), run(6, 2), run(9, 1))
	m := striped(t)
	if l := slices.Collect(m.All()); !slices.Equal(l, all) {
		t.Errorf("All: %v", l)
	}
	gives(t, m, api.OK, run(3, 3)) // they were in use, so they part what is on both sides of them
	if l := slices.Collect(m.All()); !slices.Equal(l, all) {
		t.Errorf("All: %v", l)
	}
	m.Commit()
	if l := slices.Collect(m.All()); !slices.Equal(l, runs(run(1, 7), run(9, 1))) {
		t.Errorf("All: %v", l)
	}
}

// P5.4, R4: a range may be left at each of its runs, and ranged over again.
func TestAllLeftEarly(t *testing.T) {
	all := runs(run(1, 2), run(6, 2), run(9, 1))
	seq := striped(t).All()
	for stop := range len(all) {
		var got []api.Run
		for r := range seq {
			got = append(got, r)
			if len(got) == stop+1 {
				break
			}
		}
		if !slices.Equal(got, all[:stop+1]) {
			t.Errorf("left at %d: %v", stop, got)
		}
		if l := slices.Collect(seq); !slices.Equal(l, all) {
			t.Errorf("again: %v", l)
		}
	}
}

// P5.4: the map as it is when the range begins, not when All is called.
func TestAllBegins(t *testing.T) {
	m := New(6)
	seq := m.All()
	takes(t, m, 2, run(0, 2))
	if l := slices.Collect(seq); !slices.Equal(l, runs(run(2, 4))) {
		t.Errorf("All: %v", l)
	}
	gives(t, m, api.OK, run(0, 1))
	if l := slices.Collect(seq); !slices.Equal(l, runs(run(0, 1), run(2, 4))) {
		t.Errorf("All: %v", l)
	}
	m.Reset()
	if l := slices.Collect(seq); !slices.Equal(l, runs(run(0, 6))) {
		t.Errorf("All: %v", l)
	}
}

// P5.4: what is done to the map in between is not seen in that range, and stays done.
func TestAllChangedBetween(t *testing.T) {
	all := runs(run(1, 2), run(6, 2), run(9, 1))
	for name, change := range map[string]func(*Map){
		"take":          func(m *Map) { m.Take(1) },
		"take all":      func(m *Map) { m.Take(m.Free()) },
		"give":          func(m *Map) { m.Give(runs(run(3, 3))); m.Commit() },
		"give the last": func(m *Map) { m.Give(runs(run(8, 1))); m.Commit() },
		"reset":         func(m *Map) { m.Reset() },
		"another":       func(m *Map) { *m = *New(4) },
	} {
		m, same := striped(t), striped(t)
		var got []api.Run
		for r := range m.All() {
			got = append(got, r)
			change(m)
			change(same)
		}
		if !slices.Equal(got, all) {
			t.Errorf("%s: %v", name, got)
		}
		if *m != *same {
			t.Errorf("%s: the map is another one behind the range", name)
		}
	}
}

// P5.4: two ranges of one map, one within the other.
func TestAllNested(t *testing.T) {
	all := runs(run(1, 2), run(6, 2), run(9, 1))
	m := striped(t)
	var outer []api.Run
	for r := range m.All() {
		outer = append(outer, r)
		want := slices.Collect(m.All())
		takes(t, m, 1, run(want[0].From, 1))
		for x := range m.All() {
			if x.From == want[0].From {
				t.Errorf("%v was taken", x)
			}
			break
		}
	}
	if !slices.Equal(outer, all) {
		t.Errorf("%v", outer)
	}
}

// P5.4: maps of all kinds; to range changes nothing.
func TestAllDrawn(t *testing.T) {
	r := rand.New(rand.NewSource(2))
	for range 300 {
		m, s := mixed(t, r, r.Intn(513))
		then := *m
		is(t, m, s)
		for range m.All() {
			break
		}
		if *m != then {
			t.Fatal("the map is another one")
		}
	}
}
