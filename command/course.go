package command

import (
	"strings"

	"cartulary/api"
	"cartulary/rules"
	"cartulary/snapshot"
	"cartulary/store"
	"cartulary/upcast"
)

// anyVersion is what a command expects that may find any number of events.
const anyVersion = -1

// turn is a step of a job: what it has come to by it; a zero Done, if it is not done.
type turn func(s *store.Store, r api.Rules, l []api.Upcast) api.Done

// course is how far a job has come.
type course struct {
	next    turn
	command api.Command
	version int         // how many events the stream had, when it was loaded
	events  []api.Event // what is to be appended behind them
	tries   int         // how many times it has appended
	done    api.Done
}

// begin is the course of a command that is to load next.
func begin(c api.Command) *course {
	w := &course{command: commandApart(c)}
	w.next = w.load
	return w
}

// step takes the next turn. Of a job that is done no more is kept than what it came to.
func (w *course) step(s *store.Store, r api.Rules, l []api.Upcast) (api.Done, bool) {
	d := w.next(s, r, l)
	if d.Kind == 0 {
		return d, false
	}
	*w = course{done: d}
	w.next = w.tell
	return d, true
}

// tell is the turn of a job that is done.
func (w *course) tell(*store.Store, api.Rules, []api.Upcast) api.Done { return w.done }

// load is the turn that asks what is to be appended to the stream as it is now.
func (w *course) load(s *store.Store, r api.Rules, l []api.Upcast) api.Done {
	c := w.command
	if d := beforehand(s, c); d.Kind != 0 {
		return d
	}
	state, version, _, e := snapshot.Load(s, r, l, c.Stream)
	switch {
	case e == api.ErrDown:
		return api.Done{Kind: api.DDown}
	case e != api.OK:
		return bad(e)
	case c.Expected != anyVersion && c.Expected != version:
		return api.Done{Kind: api.DConflict}
	}
	d, e := rules.Decide(r, c.Stream, state, c.Name, c.Fields)
	switch {
	case e != api.OK:
		return bad(e)
	case d.Refused:
		return refused(d.Reason)
	}
	w.version, w.events = version, newest(l, d.Events)
	w.next = w.add
	return api.Done{}
}

// add is the turn that appends. Where others have appended since, what was decided may be wrong by now: it is decided anew, unless the command asks for just the events that there were.
func (w *course) add(s *store.Store, _ api.Rules, _ []api.Upcast) api.Done {
	c := w.command
	a, e := s.Append(c.Stream, w.version, c.Key, w.events)
	w.events = nil
	w.tries++
	if e == api.ErrStreamVersion && c.Expected == anyVersion && w.tries < api.MaxTries {
		w.next = w.load
		return api.Done{}
	}
	return outcome(a, e)
}

// beforehand is what a command comes to of which the stream's state need not be known; a zero Done, if there is more to ask.
func beforehand(s *store.Store, c api.Command) api.Done {
	if len(c.Stream) < 1 || len(c.Stream) > api.MaxName || len(c.Key) > api.MaxName {
		return bad(api.ErrStreamName)
	}
	stream, a, known := s.Keyed(c.Key) // the empty key never is
	a.Again = true
	switch {
	case known && stream != c.Stream:
		return bad(api.ErrStreamKey)
	case known:
		return outcome(a, api.OK)
	case c.Expected < anyVersion:
		return bad(api.ErrArg)
	}
	return api.Done{}
}

// newest are events that were decided, of the version up to which those of their type are brought: nothing is to be brought up in them.
func newest(l []api.Upcast, events []api.Event) []api.Event {
	to := eventsApart(events)
	for i := range to {
		to[i].Version = upcast.Latest(l, to[i].Type)
	}
	return to
}

// outcome is what a command comes to by what an append tells.
func outcome(a api.Appended, e api.Errno) api.Done {
	d := api.Done{Kind: api.DDone}
	switch {
	case e == api.OK && a.Again:
		d.Kind = api.DAgain
		fallthrough
	case e == api.OK:
		d.First, d.Pos, d.Count = a.First, a.Pos, a.Count
	case e == api.ErrStreamVersion:
		d.Kind = api.DConflict
	case e == api.ErrStoreSpace:
		d.Kind = api.DSpace
	case e == api.ErrDown:
		d.Kind = api.DDown
	default:
		d = bad(e)
	}
	return d
}

// bad is what a command comes to that can not be done.
func bad(e api.Errno) api.Done { return api.Done{Kind: api.DBad, E: e} }

// refused is what a command comes to that the rules refuse.
func refused(reason string) api.Done {
	return api.Done{Kind: api.DRefused, Reason: strings.Clone(reason)}
}
