package command

import (
	"fmt"
	"testing"

	"cartulary/api"
	"cartulary/store"
)

// The chapter's examples.
func TestExamples(t *testing.T) {
	w := acc(t, 128)
	w.does(keyed(take(2), "k"), notYet, came(api.DDone, 1, 1, 1))
	w.does(keyed(take(2), "k"), came(api.DAgain, 1, 1, 1))

	a, b := w.job(take(2)), w.job(take(2))
	w.steps(a, notYet)
	w.steps(b, notYet)
	w.steps(a, came(api.DDone, 2, 2, 1))
	w.steps(b, notYet, never("empty"))

	w.does(expecting(take(2), 0), conflict)
	w.does(take(9), never("empty"))
	w.does(api.Command{Stream: "acc", Name: "give", Expected: -1}, badly(api.ErrRulesNone))
}

// The document's examples of the whole, as far as commands go: 4, 5, 6.
func TestExamplesOfTheWhole(t *testing.T) {
	w := acc(t, 256)
	a, b := w.job(take(3)), w.job(take(3))
	w.steps(a, notYet)
	w.steps(b, notYet)
	w.steps(a, came(api.DDone, 1, 1, 1))
	w.steps(b, notYet, never("empty"))

	w = begun(t, 256, chapter())
	w.does(expecting(order("acc", "open", "", 1), 0), notYet, came(api.DDone, 0, 0, 1))
	w.does(expecting(order("acc", "open", "", 1), 0), conflict)

	w = begun(t, 256, chapter())
	w.does(order("acc", "open", "k", 1), notYet, came(api.DDone, 0, 0, 1))
	w.does(order("acc", "open", "k", 1), came(api.DAgain, 0, 0, 1))
	w.does(order("box", "open", "k", 1), badly(api.ErrStreamKey))
}

// stopped is the answer of which nothing comes.
func stopped(t *testing.T, what string, d api.Done, is bool) {
	t.Helper()
	if d != notYet || is {
		t.Errorf("%s: %+v, %v", what, d, is)
	}
}

// P16.1, R1: of no job, and with no store, at any turn of a job: zeros, and nothing happens.
func TestNothing(t *testing.T) {
	w := acc(t, 64)
	var none *Job
	for _, s := range []*store.Store{nil, w.s, {}} {
		d, is := none.Step(s, w.r, w.l)
		stopped(t, "no job", d, is)
		d, is = none.Step(s, api.Rules{}, nil)
		stopped(t, "no job", d, is)
	}
	x := w.job(keyed(take(2), "k"))
	idle := func() {
		t.Helper()
		d, is := x.j.Step(nil, w.r, w.l)
		stopped(t, "no store", d, is)
		d, is = x.j.Step(nil, api.Rules{}, nil)
		stopped(t, "no store", d, is)
		w.is("k")
	}
	idle()
	w.steps(x, notYet)
	idle()
	w.add("acc", "", taken(1))
	w.steps(x, notYet)
	idle()
	w.steps(x, notYet)
	idle()
	w.steps(x, came(api.DDone, 2, 2, 1))
	idle()
	w.steps(x, came(api.DDone, 2, 2, 1))
	d, is := New(api.Command{}).Step(nil, w.r, w.l)
	stopped(t, "no store", d, is)
}

// R1: a job that was made by hand is of the empty command; a store that was made by hand is without a device.
func TestMadeByHand(t *testing.T) {
	w := acc(t, 64)
	for _, j := range []*Job{{}, new(Job), New(api.Command{}), {begin(api.Command{})}} {
		d, is := j.Step(nil, w.r, w.l)
		stopped(t, "no store", d, is)
		for range 3 {
			if d, is := j.Step(w.s, w.r, w.l); d != badly(api.ErrStreamName) || !is {
				t.Errorf("%+v, %v", d, is)
			}
		}
	}
	w.is()
	for range 2 {
		j := New(take(1))
		for range 2 {
			if d, is := j.Step(&store.Store{}, w.r, w.l); d != badly(api.ErrArg) || !is {
				t.Errorf("%+v, %v", d, is)
			}
		}
	}
	// One that is to append finds no store there.
	j := New(take(1))
	d, is := j.Step(w.s, w.r, w.l)
	stopped(t, "loaded", d, is)
	for range 2 {
		if d, is := j.Step(&store.Store{}, w.r, w.l); d != badly(api.ErrArg) || !is {
			t.Errorf("%+v, %v", d, is)
		}
	}
	w.is()
}

// R1: a copy of the struct is the same job.
func TestCopies(t *testing.T) {
	w := acc(t, 64)
	x := w.job(keyed(take(2), "k"))
	one := *x.j
	w.steps(x, notYet)
	two := *x.j
	w.steps(pair{&one, x.p}, came(api.DDone, 1, 1, 1))
	three := *x.j
	for _, j := range []*Job{x.j, &one, &two, &three} {
		w.steps(pair{j, x.p}, came(api.DDone, 1, 1, 1))
	}
}

// ending is something that a command comes to, and how a job comes there from the chapter's stream.
type ending struct {
	name string
	want api.Done
	run  func(w *world) pair
}

func endings() []ending {
	first := func(c api.Command) func(w *world) pair {
		return func(w *world) pair {
			x := w.job(c)
			w.step(x)
			return x
		}
	}
	appended := func(c api.Command, between func(w *world)) func(w *world) pair {
		return func(w *world) pair {
			x := w.job(c)
			w.step(x)
			between(w)
			w.step(x)
			return x
		}
	}
	nothing := func(*world) {}
	other := func(stream, key string) func(w *world) {
		return func(w *world) { w.add(stream, key, taken(1)) }
	}
	return []ending{
		{"done", came(api.DDone, 1, 1, 1), appended(take(2), nothing)},
		{"done, with a key", came(api.DDone, 1, 1, 1), appended(keyed(take(2), "k"), nothing)},
		{"again, at the append", came(api.DAgain, 1, 1, 1), appended(keyed(take(2), "k"), other("acc", "k"))},
		{"again, as it loads", came(api.DAgain, 1, 1, 1), func(w *world) pair {
			other("acc", "k")(w)
			return first(keyed(take(2), "k"))(w)
		}},
		{"conflict, at the append", conflict, appended(expecting(take(2), 1), other("acc", ""))},
		{"conflict, as it loads", conflict, first(expecting(take(2), 2))},
		{"refused", never("empty"), first(take(6))},
		{"a name", badly(api.ErrStreamName), first(order("", "take", "", 1))},
		{"a key", badly(api.ErrStreamKey), appended(keyed(take(2), "k"), other("box", "k"))},
		{"no rule", badly(api.ErrRulesNone), first(order("acc", "give", "", 1))},
		{"space", space, func(w *world) pair {
			x := w.job(take(2))
			w.step(x)
			fill(w)
			w.step(x)
			return x
		}},
	}
}

// P16.1: a job that is done and steps again is what it came to, and nothing happens: whatever has come to the store since, whatever store, rules and upcasters it is told, and whatever state the device is in.
func TestDoneAgain(t *testing.T) {
	for _, c := range endings() {
		t.Run(c.name, func(t *testing.T) {
			w := acc(t, 64)
			x := c.run(w)
			w.steps(x, c.want, c.want)
			if c.want != space {
				w.add("acc", "new", opened(100))
				w.add("acc", "", taken(3))
			}
			w.steps(x, c.want)
			w.reopen(1, 1)
			w.steps(x, c.want)

			other := acc(t, 64)
			ops, was := w.d.Ops(), bytesOf(t, w.d)
			for i, s := range []*store.Store{w.s, other.s, {}} {
				for range 2 {
					if d, is := x.j.Step(s, api.Rules{}, []api.Upcast{{Type: "taken"}}); d != c.want || !is {
						t.Errorf("with the store %d: %+v, %v", i, d, is)
					}
				}
			}
			w.d.Fuse(0)
			w.d.Flush()
			w.steps(x, c.want)
			if w.d.Ops() != ops || bytesOf(t, w.d) != was {
				t.Errorf("something has happened, in %d operations", w.d.Ops()-ops)
			}
			other.is()
			w.reopen()
			w.steps(x, c.want)
		})
	}
}

// P16.1: New does nothing, and a job loads what is there when it steps, not when it was made.
func TestNewDoesNothing(t *testing.T) {
	w := begun(t, 64, chapter())
	jobs := map[int]pair{}
	for i := range 5 {
		jobs[i] = w.job(take(2))
	}
	w.is()
	w.steps(jobs[0], badly(api.ErrRulesField))
	w.add("acc", "", opened(3))
	w.steps(jobs[1], notYet, came(api.DDone, 1, 1, 1))
	w.steps(jobs[2], never("empty"))
	w.add("acc", "", opened(9))
	w.steps(jobs[3], notYet, came(api.DDone, 3, 3, 1))
	w.steps(jobs[0], badly(api.ErrRulesField))
}

// A job may go from one store to another: each step is of the one that it is told.
func TestStoresByTurns(t *testing.T) {
	one, two := acc(t, 64), acc(t, 64)
	two.add("box", "", opened(1))
	j := New(take(2))
	d, is := j.Step(one.s, one.r, one.l)
	stopped(t, "loaded", d, is)
	if d, is = j.Step(two.s, two.r, two.l); d != came(api.DDone, 1, 2, 1) || !is {
		t.Errorf("%+v, %v", d, is)
	}
	one.is()
	two.m.add("acc", "", []api.Event{taken(2)})
	two.is()
}

// The orders of so many steps of so many jobs.
func orders(jobs, steps int) (all [][]int) {
	all = [][]int{nil}
	for range steps {
		var more [][]int
		for _, l := range all {
			for j := range jobs {
				more = append(more, append(append([]int(nil), l...), j))
			}
		}
		all = more
	}
	return all
}

// P16.1 to P16.4: three jobs that meet on one stream, in every order of seven steps; and two, in every order of ten.
func TestEveryOrder(t *testing.T) {
	for i, c := range []struct {
		steps int
		l     []api.Command
	}{
		{7, []api.Command{take(2), take(3), take(1)}},
		{7, []api.Command{keyed(take(2), "k"), keyed(take(2), "k"), take(1)}},
		{7, []api.Command{keyed(take(2), "k"), order("box", "open", "k", 1), keyed(take(4), "l")}},
		{7, []api.Command{expecting(take(1), 1), expecting(take(1), 2), take(1)}},
		{10, []api.Command{take(3), take(3)}},
	} {
		t.Run(fmt.Sprint(i), func(t *testing.T) {
			t.Parallel()
			first := acc(t, 64)
			kinds := map[int]int{}
			for _, l := range orders(len(c.l), c.steps) {
				w := first.again()
				w.t = t
				var jobs []pair
				for _, x := range c.l {
					jobs = append(jobs, w.job(x))
				}
				for _, at := range l {
					kinds[w.step(jobs[at]).Kind]++
				}
				w.is()
			}
			if kinds[api.DDone] == 0 || kinds[0] == 0 || len(kinds) < 3 {
				t.Errorf("%v", kinds)
			}
		})
	}
}
