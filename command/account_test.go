package command

import (
	"fmt"
	"slices"
	"strings"

	"cartulary/api"
	"cartulary/codec"
)

// account is the plain one of what a store is to have: the batches that were added, how long the segments are, and what lies beside them.
type account struct {
	blocks  int // of the device
	batches []api.Batch
	sizes   []int          // of the segments
	saved   map[string]int // how many bytes are saved under each name
}

func (m *account) copy() *account {
	c := *m
	c.batches, c.sizes = slices.Clone(m.batches), slices.Clone(m.sizes)
	return &c
}

// entries are all events, in their places.
func (m *account) entries() (all []api.Entry) {
	numbers := map[string]int{}
	for _, b := range m.batches {
		for _, e := range b.Events {
			all = append(all, api.Entry{Pos: len(all), Stream: b.Stream, Number: numbers[b.Stream], Event: e})
			numbers[b.Stream]++
		}
	}
	return all
}

// of are a stream's events.
func (m *account) of(stream string) (l []api.Event) {
	for _, b := range m.batches {
		if b.Stream == stream {
			l = append(l, b.Events...)
		}
	}
	return l
}

// keyed is what the batch of a key came to.
func (m *account) keyed(key string) (stream string, first, pos, count int, known bool) {
	for _, b := range m.batches {
		if b.Key == key && key != "" {
			return b.Stream, b.First, pos, len(b.Events), true
		}
		pos += len(b.Events)
	}
	return "", 0, 0, 0, false
}

func (m *account) keys() (l []string) {
	for _, b := range m.batches {
		if b.Key != "" {
			l = append(l, b.Key)
		}
	}
	return l
}

// counted is how many blocks files of such sizes have.
func counted(sizes ...int) (k int) {
	for _, n := range sizes {
		for ; n > 0; n -= 512 {
			k++
		}
	}
	return k
}

// free is how many blocks there are for more.
func (m *account) free() int {
	k := m.blocks - 36 - counted(m.sizes...)
	for _, n := range m.saved {
		k -= counted(n)
	}
	return k
}

// room adds a frame of so many bytes of data, if there is room for it.
func (m *account) room(data int) bool {
	n := 6 + data
	if data >= 128 {
		n++
	}
	sizes := slices.Clone(m.sizes)
	if last := len(sizes) - 1; last < 0 || sizes[last]+n > 8192 {
		sizes = append(sizes, n)
	} else {
		sizes[last] += n
	}
	if counted(sizes...)-counted(m.sizes...) > m.free() || len(sizes)+len(m.saved) > 64 {
		return false
	}
	m.sizes = sizes
	return true
}

// add adds events to a stream, whatever its length: the error, if that can not be.
func (m *account) add(stream, key string, l []api.Event) api.Errno {
	if len(l) < 1 || len(l) > 16 || slices.ContainsFunc(l, func(e api.Event) bool { return codec.Check(e) != api.OK }) {
		return api.ErrStreamEvents
	}
	b := api.Batch{Stream: stream, Key: key, First: len(m.of(stream)), Events: l}
	data, e := codec.PutBatch(nil, b)
	if e != api.OK {
		return api.ErrStoreLong
	}
	if !m.room(len(data)) {
		return api.ErrStoreSpace
	}
	m.batches = append(m.batches, b)
	return api.OK
}

// plainJob is the plain account of a job.
type plainJob struct {
	c       api.Command
	decided bool // it is to append
	version int
	events  []api.Event
	failed  int // appends that came too late
	came    api.Done
}

// step is what a step of a job is to come to; what it adds is added.
func (m *account) step(j *plainJob, r api.Rules, l []api.Upcast) (api.Done, bool) {
	if j.came.Kind == 0 && j.decided {
		j.came = m.appends(j)
	} else if j.came.Kind == 0 {
		j.came = m.loads(j, r, l)
	}
	return j.came, j.came.Kind > 0
}

// loads is P16.2, in its order.
func (m *account) loads(j *plainJob, r api.Rules, l []api.Upcast) api.Done {
	c := j.c
	if n := len(c.Stream); n == 0 || n >= 61 || len(c.Key) >= 61 {
		return api.Done{Kind: 6, E: 100}
	}
	if stream, first, pos, count, known := m.keyed(c.Key); known && stream == c.Stream {
		return api.Done{Kind: 2, First: first, Pos: pos, Count: count}
	} else if known {
		return api.Done{Kind: 6, E: 101}
	}
	if c.Expected <= -2 {
		return api.Done{Kind: 6, E: 1}
	}
	events := m.of(c.Stream)
	if c.Expected >= 0 && c.Expected != len(events) {
		return api.Done{Kind: 3}
	}
	d, e := plainDecide(r, c.Stream, plainState(r, l, c.Stream, events), c.Name, c.Fields)
	if e != 0 {
		return api.Done{Kind: 6, E: e}
	}
	if d.Refused {
		return api.Done{Kind: 4, Reason: d.Reason}
	}
	for i := range d.Events {
		d.Events[i].Version = plainLatest(l, d.Events[i].Type)
	}
	j.decided, j.version, j.events = true, len(events), d.Events
	return api.Done{}
}

// appends is P16.3, with what the chapters 10 and 11 say of the order in which an append is refused.
func (m *account) appends(j *plainJob) api.Done {
	c, now, pos := j.c, len(m.of(j.c.Stream)), len(m.entries())
	if stream, first, pos, count, known := m.keyed(c.Key); known && stream == c.Stream {
		return api.Done{Kind: 2, First: first, Pos: pos, Count: count}
	} else if known {
		return api.Done{Kind: 6, E: 101}
	}
	// An event that may not be is wrong ahead of the version, all else behind it.
	late := now != j.version
	e := api.OK
	if late {
		e = m.copy().add(c.Stream, c.Key, j.events)
	} else {
		e = m.add(c.Stream, c.Key, j.events)
	}
	switch {
	case e == 102:
		return api.Done{Kind: 6, E: 102}
	case late && c.Expected >= 0:
		return api.Done{Kind: 3}
	case late:
		j.decided = false
		if j.failed++; j.failed == 3 {
			return api.Done{Kind: 3}
		}
		return api.Done{}
	case e == 111:
		return api.Done{Kind: 5}
	case e != 0:
		return api.Done{Kind: 6, E: e}
	}
	return api.Done{Kind: 1, First: now, Pos: pos, Count: len(j.events)}
}

// tellEvents is what is told of events.
func tellEvents(l []api.Event) string {
	b := &strings.Builder{}
	for _, e := range l {
		fmt.Fprintf(b, "%q version %d", e.Type, e.Version)
		for _, f := range e.Fields {
			fmt.Fprintf(b, ", %q %v %d %q", f.Name, f.Text, f.N, f.S)
		}
		b.WriteString("\n")
	}
	return b.String()
}

// tellEntries is what is told of entries.
func tellEntries(l []api.Entry) string {
	b := &strings.Builder{}
	for _, x := range l {
		fmt.Fprintf(b, "%d: %q %d: %s", x.Pos, x.Stream, x.Number, tellEvents([]api.Event{x.Event}))
	}
	return b.String()
}

// want is what is to be told of the log, as tell tells it.
func (m *account) want(keys []string) string {
	b := &strings.Builder{}
	b.WriteString(tellEntries(m.entries()))
	for _, key := range keys {
		stream, first, pos, count, known := m.keyed(key)
		fmt.Fprintf(b, "key %q: %q %d %d %d %v\n", key, stream, first, pos, count, known)
	}
	return b.String()
}
