package project

import (
	"fmt"
	"math/rand"
	"reflect"
	"slices"
	"strings"
	"testing"
	"unsafe"

	"cartulary/api"
)

// loan is something that is handed in, of which all can be written over: each of its lists has room behind its end, in which others stand, and the bytes of each of its texts are its own.
type loan struct {
	lists []reflect.Value
	texts [][]byte
}

// lend is the same thing again, and the loan of it.
func lend[T any](x T) (T, *loan) {
	n := &loan{}
	return n.again(reflect.ValueOf(x)).Interface().(T), n
}

func (n *loan) again(v reflect.Value) reflect.Value {
	to := reflect.New(v.Type()).Elem()
	switch v.Kind() {
	case reflect.Slice:
		if v.Len() == 0 {
			return v
		}
		to = reflect.MakeSlice(v.Type(), v.Len()+2, v.Len()+2)
		for i := range v.Len() {
			to.Index(i).Set(n.again(v.Index(i)))
		}
		for i := v.Len(); i < to.Len(); i++ {
			to.Index(i).Set(bare(v.Index(0)))
		}
		n.lists = append(n.lists, to)
		return to.Slice(0, v.Len())
	case reflect.Struct:
		for i := range v.NumField() {
			to.Field(i).Set(n.again(v.Field(i)))
		}
	case reflect.String:
		if b := []byte(v.String()); len(b) > 0 {
			n.texts = append(n.texts, b)
			to.SetString(unsafe.String(&b[0], len(b)))
		}
	default:
		to.Set(v)
	}
	return to
}

// bare is the same without its lists: what stands in a list's room would else have room itself, and so on.
func bare(v reflect.Value) reflect.Value {
	to := reflect.New(v.Type()).Elem()
	to.Set(v)
	if v.Kind() == reflect.Struct {
		for i := range v.NumField() {
			if f := to.Field(i); f.Kind() == reflect.Slice {
				f.SetZero()
			} else {
				f.Set(bare(f))
			}
		}
	}
	return to
}

// scrawl writes over all of it.
func (n *loan) scrawl() {
	for _, b := range n.texts {
		for i := range b {
			b[i] = '!'
		}
	}
	for _, l := range n.lists {
		for i := range l.Len() {
			l.Index(i).SetZero()
		}
	}
}

// whole tells all of a thing, the room behind the end of each list included.
func whole(x any) string {
	var b strings.Builder
	wholeOf(&b, reflect.ValueOf(x))
	return b.String()
}

func wholeOf(b *strings.Builder, v reflect.Value) {
	switch v.Kind() {
	case reflect.Slice:
		fmt.Fprintf(b, "%d[", v.Len())
		for i := range v.Cap() {
			wholeOf(b, v.Slice(0, v.Cap()).Index(i))
		}
		b.WriteString("]")
	case reflect.Struct:
		for i := range v.NumField() {
			wholeOf(b, v.Field(i))
			b.WriteString(",")
		}
	default:
		fmt.Fprintf(b, "%#v", v.Interface())
	}
}

// tables is what a view is made of.
type tables struct {
	P api.Projection
	L []api.Upcast
}

// drawnTables are some of which some may not be.
func drawnTables(r *rand.Rand) tables {
	x := tables{drawnProjection(r, "p"), drawnUpcasts(r)}
	if in(r, 4) {
		spoil(r, &x.P)
	}
	if in(r, 6) {
		x.L = spoilUpcasts(r, x.L)
	}
	return x
}

func drawnEntry(r *rand.Rand, pos int) api.Entry {
	return api.Entry{Pos: pos, Stream: of(r, "acc", "box", "5"), Number: pos, Event: handEvent(r)}
}

// R4: what is handed in stays as it was, behind its end too.
func TestHandedIn(t *testing.T) {
	r := rand.New(rand.NewSource(6))
	for range 300 {
		x, _ := lend(drawnTables(r))
		was := whole(x)
		Check(x.P)
		v := New(x.P, x.L)
		w := begun(t, 64)
		for i := range 20 {
			e, _ := lend(drawnEntry(r, i))
			entry := whole(e)
			v.Take(e)
			if whole(e) != entry {
				t.Fatalf("%s is %s", entry, whole(e))
			}
			w.try("acc", drawnEvents(r)...)
		}
		Open(w.s, x.P, x.L)
		v.Tick(w.s, most)
		v.Save(w.s)
		if o, e := Open(w.s, x.P, x.L); e == api.OK {
			o.Tick(w.s, most)
			o.Save(w.s)
		}
		if whole(x) != was {
			t.Fatalf("%s is %s", was, whole(x))
		}
	}
}

// R4: nothing of what is handed in is kept: projections and upcasters are written over when a view is made of them, entries when they are taken, keys when they were asked for, their texts too; all goes on as it was to go on.
func TestNothingKept(t *testing.T) {
	r := rand.New(rand.NewSource(7))
	for range 400 {
		x := drawnTables(r)
		lent, n := lend(x)
		v := New(lent.P, lent.L)
		n.scrawl()
		var entries []api.Entry
		for i := range 20 {
			e := drawnEntry(r, i)
			lent, n := lend(e)
			if !v.Take(lent) {
				t.Fatalf("%+v is not taken", e)
			}
			key, k := lend(of(r, "acc", "x", "5"))
			v.Get(key)
			n.scrawl()
			k.scrawl()
			entries = append(entries, e)
			told(t, v, i+1, plainRows(x.P, x.L, entries)...)
		}
	}
}

// R4: likewise of a view that was opened, and of one that was saved.
func TestNothingKeptOfOpened(t *testing.T) {
	r := rand.New(rand.NewSource(8))
	for range 100 {
		x := tables{drawnProjection(r, "p"), drawnUpcasts(r)}
		w := begun(t, 128, x.L...)
		for range 3 {
			w.add(of(r, "acc", "box"), drawnEvents(r)...)
			lent, n := lend(x)
			v, e := Open(w.s, lent.P, lent.L)
			if e != api.OK {
				t.Fatal(e)
			}
			n.scrawl()
			w.is(v, x.P)
			w.tick(v, x.P, most)
			if !in(r, 3) {
				w.save(v)
				w.opens(x.P, len(w.log))
			}
			w.reopen(1)
			w.is(v, x.P)
		}
	}
}

// R4: the rows that are told are the asker's own: what is written into them, and behind their end, changes nothing of the view, nor of another answer.
func TestHandedOut(t *testing.T) {
	w := some(t, 9)
	v := w.view(chapter(), 7)
	for _, x := range []*View{v, w.open(chapter())} {
		w.tick(x, chapter(), 1)
		one, two := x.Rows(), x.Rows()
		want := slices.Clone(one)
		for _, l := range [][]api.Row{one, two} {
			if !slices.Equal(l, want) {
				t.Fatalf("%v, not %v", l, want)
			}
			l = append(l, row("behind", 1))
			l = l[:cap(l)]
			for i := range l {
				l[i] = row("!", -1)
			}
			for i := range one[:cap(one)] {
				one[:cap(one)][i] = row("!", -1)
			}
			w.is(x, chapter())
		}
		w.save(x)
		w.opens(chapter(), x.Cursor())
		w.tick(x, chapter(), most)
	}
}

// R4: rows that were told stay as they were when more is taken.
func TestAnswersStay(t *testing.T) {
	w := some(t, 9)
	v := w.view(chapter(), 3)
	rows := v.Rows()
	want := slices.Clone(rows)
	w.tick(v, chapter(), most)
	w.save(v)
	w.open(chapter())
	if !slices.Equal(rows, want) || slices.Equal(rows, v.Rows()) {
		t.Errorf("%v, not %v", rows, want)
	}
}

// R4: views that were made of one projection share nothing: it is written over between them.
func TestOneProjectionOfManyViews(t *testing.T) {
	p := chapter()
	one := New(p, nil)
	p.Sums[0].Add = num(100)
	two := New(p, nil)
	p.Sums[0] = onto("opened", txt("k"), num(7))
	three := New(p, nil)
	for _, v := range []*View{one, two, three} {
		takes(t, v, "acc", given(3), opened(1))
	}
	told(t, one, 2, row("acc", 3))
	told(t, two, 2, row("acc", 100))
	told(t, three, 2, row("k", 7))
}

// R5: what is told, and what is laid on the device, is the same again, whatever room lists have, and what was asked in between: on no order of a map it hangs.
func TestSameAgain(t *testing.T) {
	for seed := range int64(60) {
		run := func(other bool) (string, [32]byte) {
			var b strings.Builder
			r := rand.New(rand.NewSource(seed))
			x := drawnTables(r)
			w := begun(t, 128, x.L...)
			if other {
				x, _ = lend(x)
			}
			v := New(x.P, x.L)
			for i := range 40 {
				w.add(of(r, "acc", "box", "s3", "s4"), drawnEvents(r)...)
				if other {
					v.Rows()
					v.Get("acc")
					Open(w.s, x.P, x.L)
				}
				n, e := v.Tick(w.s, r.Intn(5))
				fmt.Fprintln(&b, n, e, v.Rows(), v.Cursor())
				if i%9 == 8 {
					fmt.Fprintln(&b, v.Save(w.s))
				}
			}
			return b.String(), bytesOf(t, w.d)
		}
		one, d := run(false)
		two, c := run(true)
		if one != two || d != c {
			t.Fatalf("seed %d: %s is %s", seed, one, two)
		}
	}
}

// What a view keeps does not grow with the events that it takes: its cursor and its rows.
func TestKept(t *testing.T) {
	v := New(chapter(), nil)
	for range 5000 {
		takes(t, v, "acc", given(1), event(strings.Repeat("x", 50), 0, words("s", strings.Repeat("y", 200))))
	}
	told(t, v, 10000, row("acc", 5000))
	if s := v.state; len(s.sums) != 1 || len(s.upcasts) != 0 || len(s.rows) != 1 || s.name != "sums" {
		t.Errorf("%+v", s)
	}
}

// The lender lends the same things, and writes over all of them.
func TestLend(t *testing.T) {
	x := tables{chapter(), takenUp()}
	lent, n := lend(x)
	if plain := fmt.Sprintf("%+v", x); fmt.Sprintf("%+v", lent) != plain || cap(lent.P.Sums) < 3 || cap(lent.L) < 4 {
		t.Errorf("%+v", lent)
	}
	name := lent.P.Sums[0].Type
	n.scrawl()
	if name != "!!!!!" || lent.P.Name != "!!!!" || lent.L[0].Type != "" || x.P.Sums[0].Type != "taken" || x.L[0].Type != "taken" {
		t.Errorf("%q, %+v; %+v", name, lent, x)
	}
}
