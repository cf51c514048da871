package command

import (
	"fmt"
	"math/rand"
	"reflect"
	"slices"
	"strings"
	"testing"
	"unsafe"

	"cartulary/api"
)

// loan is something that is handed in, of which all can be written over: each of its lists has room behind its end, in which others stand, and the bytes of each of its texts are its own.
type loan struct {
	lists []reflect.Value
	texts [][]byte
}

// lend is the same thing again, and the loan of it.
func lend[T any](x T) (T, *loan) {
	n := &loan{}
	return n.again(reflect.ValueOf(x)).Interface().(T), n
}

func (n *loan) again(v reflect.Value) reflect.Value {
	to := reflect.New(v.Type()).Elem()
	switch v.Kind() {
	case reflect.Slice:
		if v.Len() == 0 {
			return v
		}
		to = reflect.MakeSlice(v.Type(), v.Len()+2, v.Len()+2)
		for i := range to.Len() {
			to.Index(i).Set(n.again(v.Index(i % v.Len())))
		}
		n.lists = append(n.lists, to)
		return to.Slice(0, v.Len())
	case reflect.Struct:
		for i := range v.NumField() {
			to.Field(i).Set(n.again(v.Field(i)))
		}
	case reflect.String:
		if b := []byte(v.String()); len(b) > 0 {
			n.texts = append(n.texts, b)
			to.SetString(unsafe.String(&b[0], len(b)))
		}
	default:
		to.Set(v)
	}
	return to
}

// scrawl writes over all of it.
func (n *loan) scrawl() {
	for _, b := range n.texts {
		for i := range b {
			b[i] = '!'
		}
	}
	for _, l := range n.lists {
		for i := range l.Len() {
			l.Index(i).SetZero()
		}
	}
}

// whole tells all of a thing, the room behind the end of each list included.
func whole(x any) string {
	var b strings.Builder
	wholeOf(&b, reflect.ValueOf(x))
	return b.String()
}

func wholeOf(b *strings.Builder, v reflect.Value) {
	switch v.Kind() {
	case reflect.Slice:
		fmt.Fprintf(b, "%d[", v.Len())
		for i := range v.Cap() {
			wholeOf(b, v.Slice(0, v.Cap()).Index(i))
		}
		b.WriteString("]")
	case reflect.Struct:
		for i := range v.NumField() {
			wholeOf(b, v.Field(i))
			b.WriteString(",")
		}
	default:
		fmt.Fprintf(b, "%#v", v.Interface())
	}
}

// tables is what a step is handed beside the store.
type tables struct {
	R api.Rules
	L []api.Upcast
}

// R4: what is handed in stays as it was, behind its end too.
func TestHandedIn(t *testing.T) {
	r := rand.New(rand.NewSource(4))
	for range 150 {
		w := drawnWorld(t, r, 128)
		lent, _ := lend(tables{w.r, w.l})
		was := whole(lent)
		w.r, w.l = lent.R, lent.L
		for range 12 {
			c, _ := lend(drawnCommand(r, w))
			command := whole(c)
			x := w.job(c)
			x.j = New(c)
			for range 8 {
				if w.step(x); in(r, 4) {
					w.tries("acc", "", drawnEvents(r))
				}
			}
			if whole(c) != command {
				t.Fatalf("%s is %s", command, whole(c))
			}
		}
		if whole(lent) != was {
			t.Fatalf("%s is %s", was, whole(lent))
		}
		w.is()
	}
}

// lentStep steps with tables that are lent, and written over behind the step.
func (w *world) lentStep(x pair) {
	w.t.Helper()
	lent, n := lend(tables{w.r, w.l})
	want, done := w.m.step(x.p, w.r, w.l)
	got, is := x.j.Step(w.s, lent.R, lent.L)
	n.scrawl()
	if got != want || is != done {
		w.t.Fatalf("%+v: %+v, %v, not %+v, %v", x.p.c, got, is, want, done)
	}
}

// R4: nothing of what is handed in is kept: commands are written over when their jobs are made, rules and upcasters behind each step, their texts too; all goes on as it was to go on.
func TestNothingKept(t *testing.T) {
	r := rand.New(rand.NewSource(5))
	m := told{}
	for range 60 {
		w := drawnWorld(t, r, 128)
		jobs := make([]pair, 3)
		for range 60 {
			at := r.Intn(len(jobs))
			if jobs[at].j == nil || jobs[at].p.came != notYet && !in(r, 3) {
				c := drawnCommand(r, w)
				lent, n := lend(c)
				jobs[at] = pair{New(lent), &plainJob{c: c}}
				n.scrawl()
			}
			w.lentStep(jobs[at])
			m.count(jobs[at], jobs[at].p.came)
			if in(r, 20) {
				w.tries("acc", "", drawnEvents(r))
			}
		}
		w.is("!")
		w.reopen()
		w.is("!")
	}
	for what, least := range map[string]int{"1 0": 100, "2 0": 50, "3 0": 50, "4 0": 100, "done, the time 2": 10} {
		if m[what] < least {
			t.Errorf("%s: %d times", what, m[what])
		}
	}
}

// R4: what was decided from a state, and from others' events, is not theirs: what is told of the log is written over, and the events that are to be appended stay.
func TestNothingShared(t *testing.T) {
	long := strings.Repeat("s", 150)
	r := with(chapter(), emits("copy", emit("copied", as("s", st("s")), as("self", self()))))
	r.Evolves = append(r.Evolves, does("said", as("s", gv("s"))))
	w := begun(t, 64, r)
	w.add("acc", "", event("said", 0, words("s", long)))
	for i := range 3 {
		x := w.loaded(api.Command{Stream: "acc", Name: "copy", Expected: -1, Key: fmt.Sprint(i)})
		all, _ := w.s.All(0, most)
		for _, e := range all {
			clear(e.Event.Fields)
		}
		clear(all)
		if i == 1 {
			w.snap("acc")
		}
		w.steps(x, came(api.DDone, i+1, i+1, 1))
	}
	l, e := w.s.Stream("acc", 3, 1)
	if want := event("copied", 0, words("s", long), words("self", "acc")); e != api.OK || len(l) != 1 || tellEvents([]api.Event{l[0].Event}) != tellEvents([]api.Event{want}) {
		t.Errorf("%v, %v", l, e)
	}
}

// R4: a job that steps changes no other one's command and events, also where both were made of one command.
func TestOneCommandOfManyJobs(t *testing.T) {
	w := acc(t, 64)
	c := take(1)
	one, two := w.job(c), w.job(c)
	w.steps(one, notYet)
	w.steps(two, notYet)
	c.Fields[0] = number("n", 3)
	three := w.job(c)
	w.steps(three, notYet)
	w.steps(one, came(api.DDone, 1, 1, 1))
	w.steps(two, notYet, notYet, came(api.DDone, 2, 2, 1))
	w.steps(three, notYet, notYet, came(api.DDone, 3, 3, 1))
	w.does(take(1), never("empty"))
}

// R5: what jobs come to, and what is laid on the device, is the same again, whatever room lists have, whatever was asked in between, and whatever other jobs there were.
func TestSameAgain(t *testing.T) {
	for seed := range int64(40) {
		run := func(other bool) (string, [32]byte) {
			var told strings.Builder
			r := rand.New(rand.NewSource(seed))
			w := drawnWorld(t, r, 128)
			beside := acc(t, 64)
			var jobs []*Job
			for range 60 {
				if len(jobs) < 3 || in(r, 4) {
					jobs = append(jobs, New(drawnCommand(r, w)))
				}
				at := max(0, len(jobs)-1-r.Intn(4))
				x, l := w.r, w.l
				if other {
					lent, _ := lend(tables{x, l})
					x, l = lent.R, lent.L
					beside.run(take(0))
					New(take(1)).Step(w.s, x, l)
					jobs[at].Step(nil, api.Rules{}, nil)
				}
				d, is := jobs[at].Step(w.s, x, l)
				fmt.Fprintf(&told, "%+v %v\n", d, is)
			}
			return told.String(), bytesOf(t, w.d)
		}
		one, d := run(false)
		two, c := run(true)
		if one != two || d != c {
			t.Fatalf("seed %d: %s is %s", seed, one, two)
		}
	}
}

// What is kept of a job that is done is no more than what it came to.
func TestKeptWhenDone(t *testing.T) {
	for _, c := range endings() {
		x := c.run(acc(t, 64))
		k := x.j.course
		if k.done != c.want || !reflect.DeepEqual(k.command, api.Command{}) || k.events != nil || k.version != 0 || k.tries != 0 {
			t.Errorf("%s: %+v", c.name, k)
		}
	}
}

// The lender lends the same things, and writes over all of them.
func TestLend(t *testing.T) {
	c := api.Command{Stream: "acc", Name: "take", Key: "k", Expected: -1, Fields: []api.Field{number("n", 2), words("a", "b")}}
	lent, n := lend(c)
	if lent.Stream != "acc" || !slices.Equal(lent.Fields, c.Fields) || cap(lent.Fields) < 4 {
		t.Errorf("%+v", lent)
	}
	name := lent.Fields[1].S
	n.scrawl()
	if lent.Stream != "!!!" || name != "!" || lent.Fields[0] != (api.Field{}) || c.Stream != "acc" || c.Fields[1].S != "b" {
		t.Errorf("%+v, %q; %+v", lent, name, c)
	}
}
