package sheet

import (
	"slices"
	"testing"

	"cartulary/api"
)

// roomy is a list with spare room, and all of it.
func roomy(l []api.Field) (r, room []api.Field) {
	room = append(copied(l), number("spare", 1), text("spare", "2"), number("", 3))
	return room[:len(l)], room
}

// scrawl writes over a list, and over its spare room.
func scrawl(l []api.Field) {
	l = l[:cap(l)]
	for i := range l {
		l[i] = api.Field{Name: "!", Text: true, N: -1, S: "!"}
	}
}

// someLists are records, and lists that are none.
func someLists() [][]api.Field {
	return [][]api.Field{nil, record(1), record(2), record(3), record(15), record(16), record(17), numbered("c", "a", "b", "a"), {{}, {S: "x"}, {}}}
}

// R4: what is handed in is not changed, its spare room included.
func TestHandedIn(t *testing.T) {
	for _, l := range someLists() {
		for _, name := range []string{"", "a", "b", "f00", "f01", "f02", "f15", "spare", "z"} {
			r, room := roomy(l)
			was := copied(room)
			Check(r)
			Write(r)
			Get(r, name)
			Drop(r, name)
			Set(r, number(name, 77))
			Set(r, text(name, "78"))
			if !slices.Equal(room, was) {
				t.Errorf("%q: %+v is %+v", name, was, room)
			}
		}
	}
}

// R4: a list that comes out shares nothing with the one that was handed in, nor with another one that came out.
func TestHandedOut(t *testing.T) {
	for _, l := range someLists() {
		for _, name := range []string{"", "a", "b", "f00", "f01", "f15", "spare", "z"} {
			apart(t, l, func(r []api.Field) []api.Field { return Set(r, number(name, 77)) })
			apart(t, l, func(r []api.Field) []api.Field { return Drop(r, name) })
		}
	}
}

// apart calls twice with one list, and scrawls over one list after the other.
func apart(t *testing.T, l []api.Field, call func(r []api.Field) []api.Field) {
	t.Helper()
	r, room := roomy(l)
	was := copied(room)
	first, second := call(r), call(r)
	want := copied(second)
	scrawl(first)
	if !slices.Equal(room, was) || !slices.Equal(second, want) {
		t.Errorf("%+v is %+v, %+v is %+v", was, room, want, second)
	}
	scrawl(room)
	if !slices.Equal(second, want) {
		t.Errorf("%+v is %+v", want, second)
	}
	// The room behind an answer is new too: what is appended there is seen nowhere else.
	r, room = roomy(l)
	first = call(r)
	_ = append(first, number("behind", 1))
	_ = append(r, number("behind", 2))
	if !slices.Equal(first, want) || !slices.Equal(call(r), want) {
		t.Errorf("%+v, %+v, not %+v", first, room, want)
	}
}

// R4: so of Read: each answer is a list of its own, of which what is written into it changes no later one.
func TestReadMemory(t *testing.T) {
	for _, s := range []string{"", "a=1", "b='x&a=7&c='%41", "a=1&a=2", "x"} {
		first, _ := Read(s)
		second, _ := Read(s)
		want := copied(second)
		scrawl(first)
		third, _ := Read(s)
		if !slices.Equal(second, want) || !slices.Equal(third, want) {
			t.Errorf("Read(%q): %+v, %+v, not %+v", s, second, third, want)
		}
	}
}

// R5: what is answered hangs on the arguments alone: neither on a map's order nor on a list's room.
func TestSameAgain(t *testing.T) {
	const s = "h=1&g=2&f=3&e=4&d=5&c=6&b=7&a=8&hh=9&gg=1&ff=2&ee=3&dd=4&cc=5&bb=6&aa=7"
	want, _ := Read(s)
	for range 200 {
		if got, e := Read(s); !slices.Equal(got, want) || e != api.OK {
			t.Fatalf("%+v, %v", got, e)
		}
	}
	r, _ := roomy(record(5))
	if a, b := Set(r, number("f021", 1)), Set(record(5), number("f021", 1)); !slices.Equal(a, b) {
		t.Errorf("%+v, %+v", a, b)
	}
}
