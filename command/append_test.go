package command

import (
	"fmt"
	"strings"
	"testing"

	"cartulary/api"
)

// P16.3: the third time that a job appends and one ahead of it: so many appends come too late, and the next one does not.
func TestTries(t *testing.T) {
	for late := range 5 {
		w := begun(t, 64, chapter())
		w.add("acc", "", opened(50))
		x := w.job(keyed(take(1), "k"))
		for i := range min(late, 3) {
			w.steps(x, notYet)
			w.add("acc", "", taken(1))
			if i < 2 {
				w.steps(x, notYet)
			}
		}
		if late > 2 {
			w.steps(x, conflict, conflict)
			continue
		}
		w.steps(x, notYet, came(api.DDone, late+1, late+1, 1), came(api.DDone, late+1, late+1, 1))
		w.does(keyed(take(1), "k"), came(api.DAgain, late+1, late+1, 1))
	}
}

// P16.3: what was decided ahead of another one's append is decided anew: what it comes to then is what the new state says.
func TestDecidedAnew(t *testing.T) {
	r := with(chapter(), takes("log", api.Case{Emits: []api.Emit{emit("logged", as("left", st("left")), as("n", gv("n")))}}))
	w := begun(t, 64, r)
	w.add("acc", "", opened(5))
	x := w.job(order("acc", "log", "", 1))
	w.steps(x, notYet)
	w.add("acc", "", taken(1))
	w.steps(x, notYet, notYet)
	w.add("acc", "", taken(1))
	w.steps(x, notYet, notYet, came(api.DDone, 3, 3, 1))
	l, _ := w.s.Stream("acc", 3, 1)
	if got, want := tellEvents([]api.Event{l[0].Event}), tellEvents([]api.Event{event("logged", 0, number("left", 3), number("n", 1))}); got != want {
		t.Errorf("%s, not %s", got, want)
	}

	// What is too late once may be refused then, or be wrong, or have become known by its key.
	for _, c := range []struct {
		then api.Event
		key  string
		want api.Done
	}{
		{taken(2), "", never("empty")},
		{event("opened", 0, words("n", "5")), "", badly(api.ErrRulesType)},
		{taken(0), "k", came(api.DAgain, 2, 2, 1)},
	} {
		w := acc(t, 64)
		x := w.job(keyed(take(3), "k"))
		w.steps(x, notYet)
		w.add("acc", "", taken(1))
		w.steps(x, notYet)
		w.add("acc", c.key, c.then)
		w.steps(x, c.want, c.want)
	}
}

// P16.3: a command that expects a number of events does not go on, if there are others at its append: not even at its first one.
func TestExpectedAtTheAppend(t *testing.T) {
	w := acc(t, 64)
	x := w.job(expecting(take(1), 1))
	w.steps(x, notYet)
	w.add("acc", "", taken(1))
	w.steps(x, conflict, conflict)

	w = begun(t, 64, chapter())
	x = w.job(expecting(order("acc", "open", "", 1), 0))
	w.steps(x, notYet)
	w.add("acc", "", opened(1))
	w.steps(x, conflict, conflict)

	// Others' streams are no matter.
	x = w.job(expecting(order("box", "open", "", 1), 0))
	y := w.job(order("box", "open", "", 1))
	w.steps(x, notYet)
	w.steps(y, notYet)
	w.add("acc", "", opened(1), opened(2))
	w.steps(x, came(api.DDone, 0, 3, 1))
	w.steps(y, notYet)
	w.add("acc", "", opened(3))
	w.steps(y, notYet, came(api.DDone, 1, 5, 1))
}

// P16.3: a key that has come to be known since the job has loaded: of this stream DAgain, of another one DBad; ahead of that others have appended, too.
func TestKeyAtTheAppend(t *testing.T) {
	for _, expected := range []int{-1, 1} {
		w := acc(t, 64)
		x, y := w.job(expecting(keyed(take(1), "k"), expected)), w.job(expecting(keyed(take(1), "k"), expected))
		w.steps(x, notYet)
		w.steps(y, notYet)
		w.steps(y, came(api.DDone, 1, 1, 1))
		w.add("acc", "", taken(1), taken(1))
		w.steps(x, came(api.DAgain, 1, 1, 1), came(api.DAgain, 1, 1, 1))

		w = acc(t, 64)
		x = w.job(expecting(keyed(take(1), "k"), expected))
		w.steps(x, notYet)
		w.add("box", "k", opened(1), opened(1))
		w.add("acc", "", taken(1), taken(1))
		w.steps(x, badly(api.ErrStreamKey), badly(api.ErrStreamKey))
	}
}

// broad is a handler that makes so many events, with a text of so many bytes in each.
func broad(name string, events, bytes int) api.Handler {
	var l []api.Emit
	for range events {
		l = append(l, emit("x", as("s", txt(strings.Repeat("s", bytes)))))
	}
	return emits(name, l...)
}

// many is an Emit of so many fields.
func many(fields int) api.Emit {
	m := emit("x")
	for i := range fields {
		m.Sets = append(m.Sets, as(fmt.Sprint("f", i), num(i)))
	}
	return m
}

// P16.3: what the store does not take is DBad, with its error: events that may not be (by rules that may not be), and more bytes than may be; at the edges.
func TestNotTaken(t *testing.T) {
	r := with(chapter(),
		broad("sixteen", 16, 0), broad("seventeen", 17, 0), broad("text", 1, 200), broad("longer", 1, 201),
		emits("named", emit(strings.Repeat("x", 60))), emits("misnamed", emit(strings.Repeat("x", 61))), emits("unnamed", emit("")),
		emits("field", emit("x", as(strings.Repeat("f", 60), num(1)))), emits("misfield", emit("x", as("", num(1)))),
		emits("fields", many(16)), emits("more", many(17)), emits("last", emit("x"), emit("")),
		broad("nine", 9, 200), broad("ten", 10, 200), // an event has 209 bytes, and a batch at most 2000
	)
	w := begun(t, 128, r)
	w.add("acc", "", opened(5))
	for name, want := range map[string]api.Errno{
		"sixteen": api.OK, "seventeen": api.ErrStreamEvents, "text": api.OK, "longer": api.ErrStreamEvents, "named": api.OK, "misnamed": api.ErrStreamEvents,
		"unnamed": api.ErrStreamEvents, "field": api.OK, "misfield": api.ErrStreamEvents, "fields": api.OK, "more": api.ErrStreamEvents, "last": api.ErrStreamEvents,
		"nine": api.OK, "ten": api.ErrStoreLong,
	} {
		t.Run(name, func(t *testing.T) {
			c := api.Command{Stream: "acc", Name: name, Expected: -1, Key: name}
			x, n := w.job(c), w.s.Length()
			w.steps(x, notYet)
			d := w.step(x)
			if want == api.OK && (d.Kind != api.DDone || w.s.Length() != n+d.Count) || want != api.OK && (d != badly(want) || w.s.Length() != n) {
				t.Errorf("%+v, not %v", d, want)
			}
			w.steps(x, d, d)
		})
	}
	// An event that may not be is told also where others have appended; too many bytes are not.
	for _, c := range []struct {
		name    string
		expects bool
		want    api.Done
	}{
		{"seventeen", false, badly(api.ErrStreamEvents)}, {"ten", false, notYet},
		{"seventeen", true, badly(api.ErrStreamEvents)}, {"ten", true, conflict},
	} {
		x := api.Command{Stream: "acc", Name: c.name, Expected: -1}
		if c.expects {
			x.Expected = w.s.Version("acc")
		}
		y := w.job(x)
		w.steps(y, notYet)
		w.add("acc", "", taken(0))
		w.steps(y, c.want)
	}
}

// The longest batch that a command's events may be: at each number of bytes about the edge.
func TestLongest(t *testing.T) {
	for n := 60; n <= 140; n++ {
		w := begun(t, 64, with(chapter(), emits("do", append(broad("", 9, 200).Cases[0].Emits, broad("", 1, n).Cases[0].Emits...)...)))
		x := w.job(api.Command{Stream: "acc", Name: "do", Expected: -1, Key: "k"})
		w.steps(x, notYet)
		d := w.step(x)
		if n == 60 && d.Kind != api.DDone || n == 140 && d != badly(api.ErrStoreLong) {
			t.Errorf("%d bytes: %+v", n, d)
		}
		w.is("k")
	}
}

// fill saves till there is no room for a block more, and appends till there is none for an event more.
func fill(w *world) {
	w.t.Helper()
	for i := 0; w.m.free() > 0; i++ {
		w.save(fmt.Sprint("fill", i), 512*min(15, w.m.free()))
	}
	for {
		if _, e := w.s.Append("filling", -1, "", []api.Event{{Type: "x"}}); e != api.OK {
			if e != api.ErrStoreSpace {
				w.t.Fatal(e)
			}
			return
		}
		if e := w.m.add("filling", "", []api.Event{{Type: "x"}}); e != api.OK {
			w.t.Fatal(e)
		}
	}
}

// P16.3: where there is no room a command comes to DSpace, and has added nothing; what loads alone comes to what it did; when there is room again, it goes well.
func TestSpace(t *testing.T) {
	w := acc(t, 64)
	w.add("acc", "old", taken(1))
	late := w.job(take(1))
	w.steps(late, notYet)
	fill(w)
	was := bytesOf(t, w.d)
	x := w.job(keyed(take(1), "k"))
	w.steps(late, space, space)
	w.steps(x, notYet, space, space)
	w.does(expecting(take(1), 2), notYet, space)
	w.does(take(9), never("empty"))
	w.does(expecting(take(1), 1), conflict)
	w.does(keyed(take(1), "old"), came(api.DAgain, 1, 1, 1))
	w.does(keyed(order("box", "open", "", 1), "old"), badly(api.ErrStreamKey))
	if bytesOf(t, w.d) != was {
		t.Error("something was written")
	}
	w.is("k")
	w.reopen()
	w.is("k")
	w.does(keyed(take(1), "k"), notYet, space)
	if e := w.s.Drop("fill0"); e != api.OK {
		t.Fatal(e)
	}
	w.count()
	w.steps(x, space)
	w.does(keyed(take(1), "k"), notYet, came(api.DDone, 2, w.s.Length(), 1))
	w.does(keyed(take(1), "k"), came(api.DAgain, 2, w.s.Length()-1, 1))
}

// P16.3: as much is appended as there is room for, on devices of several sizes; then DSpace, for ever.
func TestUpToTheLast(t *testing.T) {
	for _, blocks := range []int{64, 65, 80} {
		w := begun(t, blocks, with(chapter(), broad("much", 9, 200), broad("little", 1, 0)))
		kinds := map[int]int{}
		for _, name := range []string{"much", "little"} {
			for i := 0; ; i++ {
				d := w.run(api.Command{Stream: "acc", Name: name, Expected: -1, Key: fmt.Sprint(name, i)})
				kinds[d.Kind]++
				if d == space {
					break
				}
			}
		}
		if kinds[api.DSpace] != 2 || kinds[api.DDone] < 8 || len(kinds) != 2 {
			t.Errorf("%d blocks: %v", blocks, kinds)
		}
		w.is()
		w.reopen()
		w.is()
	}
}

// P16.4: a command that is done has added all its events, one behind the other, in the order of its Emits; with others between commands.
func TestAllItsEvents(t *testing.T) {
	r := with(chapter(), takes("twice", api.Case{Emits: []api.Emit{emit("taken", as("n", gv("n"))), emit("opened", as("n", ex(api.EMul, gv("n"), num(10)))), emit("taken", as("n", num(1)))}}))
	w := begun(t, 64, r)
	w.add("acc", "", opened(5))
	w.add("box", "", opened(1))
	w.does(order("acc", "twice", "k", 2), notYet, came(api.DDone, 1, 2, 3))
	w.add("box", "", taken(1))
	w.does(order("acc", "twice", "l", 3), notYet, came(api.DDone, 4, 6, 3))
	w.does(order("acc", "twice", "k", 2), came(api.DAgain, 1, 2, 3))
	w.does(order("acc", "twice", "l", 9), came(api.DAgain, 4, 6, 3))
	w.does(take(30), never("empty"))
	w.does(take(29), notYet, came(api.DDone, 7, 9, 1))
}

// P16.4: a command that is done again with its key adds nothing, however often, in however many jobs at once, and behind crashes; a command that was not done by DDone may be done again.
func TestOnce(t *testing.T) {
	w := acc(t, 64)
	w.does(keyed(take(9), "k"), never("empty"))
	w.does(expecting(keyed(take(1), "k"), 7), conflict)
	w.does(order("acc", "give", "k", 1), badly(api.ErrRulesNone))
	var jobs []pair
	for range 4 {
		jobs = append(jobs, w.job(keyed(take(4), "k")))
	}
	for _, x := range jobs {
		w.steps(x, notYet)
	}
	w.steps(jobs[2], came(api.DDone, 1, 1, 1))
	for i := range 3 {
		for j, x := range jobs {
			if j != 2 {
				w.steps(x, came(api.DAgain, 1, 1, 1))
			}
		}
		w.does(keyed(take(4), "k"), came(api.DAgain, 1, 1, 1))
		w.add("acc", "", opened(9))
		w.snap("acc")
		w.reopen(i, i)
	}
	w.steps(jobs[2], came(api.DDone, 1, 1, 1))
}
