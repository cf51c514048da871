package store

import (
	"fmt"
	"math/rand"
	"testing"

	"cartulary/api"
)

// call is one of Append, Save and Drop, with all that it is handed.
type call struct {
	kind     int
	name     string
	expected int
	key      string
	events   []api.Event
	data     string
}

const (
	callAppend = iota
	callSave
	callDrop
)

// does it to a store, and to a model.
func (c call) does(s *Store) (api.Appended, api.Errno) {
	switch c.kind {
	case callAppend:
		return s.Append(c.name, c.expected, c.key, c.events)
	case callSave:
		return api.Appended{}, s.Save(c.name, []byte(c.data))
	}
	return api.Appended{}, s.Drop(c.name)
}

func (c call) comes(m *model) (api.Appended, api.Errno) {
	switch c.kind {
	case callAppend:
		return m.append(c.name, c.expected, c.key, c.events)
	case callSave:
		return api.Appended{}, m.save(c.name, c.data)
	}
	return api.Appended{}, m.drop(c.name)
}

// drawn is a call, mostly one that goes well where there is room.
func drawn(r *rand.Rand, m *model) call {
	name := []string{"a", "b", "ab", "\xff", fmt.Sprint("n", r.Intn(6)), text(1, 30), text(1, 60)}[r.Intn(7)]
	if r.Intn(40) == 0 {
		name = []string{"", text(1, 61)}[r.Intn(2)]
	}
	c := call{kind: []int{callAppend, callAppend, callAppend, callSave, callSave, callDrop}[r.Intn(6)], name: name}
	switch c.kind {
	case callAppend:
		n := m.version(name)
		c.expected = []int{-1, -1, n, n, n, n, n - 1, -2, r.Intn(20)}[r.Intn(9)]
		if r.Intn(2) == 0 {
			c.key = fmt.Sprint("k", r.Intn(60))
		}
		c.events = events(r.Intn(50), []int{1, 1, 2, 3, 1 + r.Intn(16), 0, 17}[r.Intn(7)])
		if r.Intn(4) == 0 && len(name) > 0 {
			c.events = sized(name, c.key, n, 200+r.Intn(1804))
		}
	case callSave:
		c.data = text(r.Intn(9), []int{0, r.Intn(30), r.Intn(600), r.Intn(3000), 512 * r.Intn(16), 8000, 8001}[r.Intn(7)])
	}
	return c
}

// drawnCall does a call, which must be answered as it is to be.
func drawnCall(r *rand.Rand, w *world) api.Errno {
	w.t.Helper()
	c := drawn(r, w.m)
	a, e := c.does(w.s)
	if wa, we := c.comes(w.m); a != wa || e != we {
		w.t.Fatalf("%v: %v, %d; not %v, %d", c, a, e, wa, we)
	}
	return e
}

// P11.2 to P11.4: many runs of calls, drawn, held against the model; what was durable is told behind each crash.
func TestDrawn(t *testing.T) {
	for seed := range 24 {
		t.Run(fmt.Sprint(seed), func(t *testing.T) {
			t.Parallel()
			r := rand.New(rand.NewSource(int64(seed)))
			w := begin(t, []int{64, 64, 100, 512}[seed%4])
			answers := map[api.Errno]int{}
			for range 200 {
				answers[drawnCall(r, w)]++
				if r.Intn(10) == 0 {
					w.is()
				}
				if r.Intn(20) == 0 {
					w.reopen(r.Intn(9), r.Intn(9))
					w.is()
				}
			}
			w.is()
			for _, e := range []api.Errno{api.OK, api.ErrStreamEvents, api.ErrStreamVersion, api.ErrStoreLong, api.ErrStoreNone} {
				if answers[e] == 0 {
					t.Errorf("never %d: %v", e, answers)
				}
			}
			if w.m.blocks == 64 && answers[api.ErrStoreSpace] == 0 {
				t.Errorf("never without room: %v", answers)
			}
		})
	}
}

// P11.5 to P11.7: many runs of calls, drawn, of which some stop, with crashes drawn, also while the store is opened; an Append that stopped is done again with its key.
func TestStopsDrawn(t *testing.T) {
	for seed := range 40 {
		t.Run(fmt.Sprint(seed), func(t *testing.T) {
			t.Parallel()
			r := rand.New(rand.NewSource(int64(seed)))
			w := begin(t, []int{64, 64, 128, 512}[r.Intn(4)])
			stops := 0
			for range 80 {
				c := drawn(r, w.m)
				if r.Intn(3) == 0 {
					w.d.Fuse(r.Intn(24))
				}
				a, e := c.does(w.s)
				w.d.Fuse(-1)
				if e == api.ErrDown {
					stops++
					w.stopped(r, c)
					continue
				}
				if wa, we := c.comes(w.m); a != wa || e != we {
					t.Fatalf("%v: %v, %d; not %v, %d", c, a, e, wa, we)
				}
				if r.Intn(8) == 0 {
					w.reopenDrawn(r)
				}
			}
			w.is()
			if stops == 0 {
				t.Error("it never stops")
			}
		})
	}
}

// stopped is what follows on a call that stopped: the store stands, and when it is opened anew the call was done, or not.
func (w *world) stopped(r *rand.Rand, c call) {
	w.t.Helper()
	if !w.d.Down() {
		w.t.Fatal("it is down, and the device is not")
	}
	w.stands()
	w.reopenDrawn(r)
	next := w.m.copy()
	if _, e := c.comes(next); e != api.OK {
		w.is() // what was to be refused has done nothing
		return
	}
	keys := next.keys()
	if got := tell(w.t, w.s, keys); got != w.m.want(keys) {
		w.m = next // that it is so is asked at once
	}
	w.is()
	if c.kind == callAppend && c.key != "" {
		a, e := c.does(w.s)
		if _, want, ok := next.keyed(c.key); e != api.OK || a.First != want.First || a.Pos != want.Pos || a.Count != want.Count || !ok {
			w.t.Fatalf("again: %v, %d; not %v", a, e, want)
		}
		w.m = next
		w.is()
	}
}

// reopenDrawn opens the store anew behind a crash, and behind others on the way.
func (w *world) reopenDrawn(r *rand.Rand) {
	w.t.Helper()
	for {
		picks := make([]int, len(w.d.Pending()))
		for i := range picks {
			picks[i] = r.Intn(1000)
		}
		w.d.Crash(picks)
		w.d.Fuse(r.Intn(60) - 10)
		s, e := Open(w.d)
		if e == api.OK {
			w.d.Fuse(-1)
			w.s = s
			return
		}
		if s != nil || e != api.ErrDown {
			w.t.Fatalf("opened: %v", e)
		}
	}
}
