package snapshot

import (
	"fmt"
	"math/rand"
	"reflect"
	"slices"
	"strings"
	"testing"
	"unsafe"

	"cartulary/api"
	"cartulary/blockdev"
)

// roomy is a list of the same things, with room behind its end in which others stand.
func roomy[T any](l []T, spare ...T) []T {
	room := slices.Concat(make([]T, 0, len(l)+len(spare)+2), l, spare)
	return room[:len(l)]
}

// roomyExpr has room in each list of Args.
func roomyExpr(e api.Expr) api.Expr {
	e.Args = roomy(e.Args, num(1), st("a"))
	for i := range e.Args {
		e.Args[i] = roomyExpr(e.Args[i])
	}
	return e
}

// roomyRules have room in each list of their Evolves. What stands there would change states, if it were taken for theirs.
func roomyRules(r api.Rules) api.Rules {
	r.Evolves = roomy(r.Evolves, does("done", as("spare", num(1))), does("taken", as("spare", num(1))), does("none", as("spare", num(1))))
	for i := range r.Evolves {
		v := &r.Evolves[i]
		v.Sets, v.Drops = roomy(v.Sets, as("spare", num(2))), roomy(v.Drops, "a", "n")
		for j := range v.Sets {
			v.Sets[j].E = roomyExpr(v.Sets[j].E)
		}
	}
	r.Handlers = roomy(r.Handlers, api.Handler{Command: "spare"})
	return r
}

// roomyUpcasts have room in each list too.
func roomyUpcasts(l []api.Upcast) []api.Upcast {
	l = roomy(l, api.Upcast{Type: "none", Changes: []api.Change{{Kind: api.UDrop, Name: "a"}}})
	for i := range l {
		l[i].Changes = roomy(l[i].Changes, api.Change{Kind: api.UDrop, Name: "n"})
	}
	return l
}

// whole tells all of a thing, the room behind the end of each list included.
func whole(x any) string {
	var b strings.Builder
	tell(&b, reflect.ValueOf(x))
	return b.String()
}

func tell(b *strings.Builder, v reflect.Value) {
	switch v.Kind() {
	case reflect.Slice:
		fmt.Fprintf(b, "%d[", v.Len())
		for i := range v.Cap() {
			tell(b, v.Slice(0, v.Cap()).Index(i))
		}
		b.WriteString("]")
	case reflect.Struct:
		for i := range v.NumField() {
			tell(b, v.Field(i))
			b.WriteString(",")
		}
	default:
		fmt.Fprintf(b, "%#v", v.Interface())
	}
}

// scrawl writes over fields, and over their room.
func scrawl(l []api.Field) {
	_ = append(l, words("behind", "!"))
	l = l[:cap(l)]
	for i := range l {
		l[i] = api.Field{Name: "!", Text: true, N: -1, S: "!"}
	}
}

// scrawlTables writes over rules and upcasters, and over their room.
func scrawlTables(r api.Rules, l []api.Upcast) {
	for _, v := range r.Evolves[:cap(r.Evolves)] {
		sets, drops := v.Sets[:cap(v.Sets)], v.Drops[:cap(v.Drops)]
		for i := range sets {
			sets[i] = as("!", num(-1))
		}
		for i := range drops {
			drops[i] = "!"
		}
	}
	clear(r.Evolves[:cap(r.Evolves)])
	for _, u := range l[:cap(l)] {
		clear(u.Changes[:cap(u.Changes)])
	}
	clear(l[:cap(l)])
}

// drawnStream is a drawn world with a stream of some events.
func drawnStream(t testing.TB, r *rand.Rand) *world {
	t.Helper()
	w := drawnWorld(t, r, 128)
	for range 5 {
		w.try("s", drawnEvents(r)...)
	}
	return w
}

// R4: what is handed in stays as it was, behind its end too.
func TestHandedIn(t *testing.T) {
	r := rand.New(rand.NewSource(5))
	for range 200 {
		w := drawnStream(t, r)
		x, l := roomyRules(w.r), roomyUpcasts(w.l)
		was := whole(x) + whole(l)
		for range 3 {
			State(w.s, x, l, "s")
			Load(w.s, x, l, "s")
			if e := Take(w.s, x, l, "s"); e != api.OK {
				t.Fatal(e)
			}
			w.noteTake("s")
			w.is()
			w.try("s", drawnEvents(r)...)
		}
		if whole(x)+whole(l) != was {
			t.Fatalf("%s is %s", was, whole(x)+whole(l))
		}
	}
}

// R4: nothing of what is handed in is kept: it is written over, and all is told as it was to be.
func TestNothingKept(t *testing.T) {
	r := rand.New(rand.NewSource(6))
	for range 200 {
		w := drawnStream(t, r)
		x, l := roomyRules(w.r), roomyUpcasts(w.l)
		stream := []byte("s")
		Load(w.s, x, l, unsafe.String(&stream[0], 1))
		if e := Take(w.s, x, l, unsafe.String(&stream[0], 1)); e != api.OK {
			t.Fatal(e)
		}
		w.noteTake("s")
		state, n, from, _ := Load(w.s, x, l, "s")
		other, _, _ := State(w.s, x, l, "s")
		want := slices.Clone(state)
		scrawlTables(x, l)
		stream[0] = '!'
		if !slices.Equal(state, want) || !slices.Equal(other, want) {
			t.Fatalf("%v, %v, not %v", state, other, want)
		}
		if n != w.count("s") || from != 0 && from != n {
			t.Fatalf("%d, %d", n, from)
		}
		w.is("!")
		w.reopen()
		w.is("!")
	}
}

// R4: what is answered is the asker's own: what is written into it, and behind its end, changes no other answer, nor what is kept, nor the store's events.
func TestHandedOut(t *testing.T) {
	r := rand.New(rand.NewSource(7))
	for range 200 {
		w := drawnStream(t, r)
		if in(r, 2) {
			w.take("s")
		}
		for range 3 {
			one, _, _ := State(w.s, w.r, w.l, "s")
			two, _, _ := State(w.s, w.r, w.l, "s")
			three, _, _, _ := Load(w.s, w.r, w.l, "s")
			four, _, _, _ := Load(w.s, w.r, w.l, "s")
			want := w.state("s")
			for i, l := range [][]api.Field{one, three, two, four} {
				if !slices.Equal(l, want) {
					t.Fatalf("the answer %d: %v, not %v", i, l, want)
				}
				scrawl(l)
			}
			w.is()
			w.take("s")
			w.is()
			if in(r, 2) {
				w.try("s", drawnEvents(r)...)
			}
		}
	}
}

// R4: an answer stays as it was when more is added and taken.
func TestAnswersStay(t *testing.T) {
	w := begin(t, 64, chapter())
	w.add("acc", opened(5))
	w.take("acc")
	one, _, _ := State(w.s, w.r, w.l, "acc")
	two, _, _, _ := Load(w.s, w.r, w.l, "acc")
	w.add("acc", taken(1))
	w.take("acc")
	w.take("acc")
	w.load("acc")
	if want := []api.Field{number("left", 5)}; !slices.Equal(one, want) || !slices.Equal(two, want) {
		t.Errorf("%v, %v", one, two)
	}
}

// R5: what is answered, and what is laid on the device, is the same again, whatever room lists have, and what was asked in between.
func TestSameAgain(t *testing.T) {
	for seed := range int64(60) {
		run := func(room bool) (string, *blockdev.Device) {
			var told strings.Builder
			r := rand.New(rand.NewSource(seed))
			w := drawnWorld(t, r, 128)
			x, l := w.r, w.l
			if room {
				x, l = roomyRules(x), roomyUpcasts(l)
			}
			for range 30 {
				stream := of(r, append(alike("stream"), "stream", "acc")...)
				w.try(stream, drawnEvents(r)...)
				if room {
					State(w.s, x, l, "acc")
				}
				fmt.Fprintln(&told, Take(w.s, x, l, of(r, stream, "acc")))
				state, n, from, e := Load(w.s, x, l, stream)
				fmt.Fprintf(&told, "%v %d %d %d\n", state, n, from, e)
			}
			return told.String(), w.d
		}
		one, d := run(false)
		two, c := run(true)
		if one != two || bytesOf(t, d) != bytesOf(t, c) {
			t.Fatalf("seed %d: %s is %s", seed, one, two)
		}
	}
}
