package streams

import (
	"slices"

	"cartulary/api"
	"cartulary/codec"
)

// state is what an index knows.
type state struct {
	all    []api.Entry      // by their places
	places map[string][]int // of a stream's events, by their numbers
	keys   map[string]keyed // the empty key is never there
}

// keyed is what the append of a key has come to, and in which stream.
type keyed struct {
	stream   string
	appended api.Appended
}

func empty() *state { return &state{places: map[string][]int{}, keys: map[string]keyed{}} }

// version is how many events a stream has.
func (s state) version(name string) int { return len(s.places[name]) }

// try is what an append would come to.
func (s state) try(stream string, expected int, key string, l []api.Event) (api.Appended, api.Errno) {
	first := s.version(stream)
	was, known := s.keys[key]
	switch {
	case !namesAllowed(stream, key):
		return api.Appended{}, api.ErrStreamName
	case known && was.stream != stream:
		return api.Appended{}, api.ErrStreamKey
	case known:
		was.appended.Again = true
		return was.appended, api.OK
	case !eventsAllowed(l):
		return api.Appended{}, api.ErrStreamEvents
	case expected < anyVersion:
		return api.Appended{}, api.ErrArg
	case expected != anyVersion && expected != first:
		return api.Appended{}, api.ErrStreamVersion
	}
	return api.Appended{First: first, Pos: len(s.all), Count: len(l)}, api.OK
}

// check tells what is wrong with a batch. A key that was there is wrong in any stream, since what is added would not be what the key came to.
func (s state) check(b api.Batch) api.Errno {
	_, known := s.keys[b.Key]
	switch {
	case !namesAllowed(b.Stream, b.Key):
		return api.ErrStreamName
	case known:
		return api.ErrStreamKey
	case !eventsAllowed(b.Events):
		return api.ErrStreamEvents
	case b.First != s.version(b.Stream):
		return api.ErrStreamVersion
	}
	return api.OK
}

// add adds a batch with which nothing is wrong.
func (s *state) add(b api.Batch) {
	if b.Key != "" {
		s.keys[b.Key] = keyed{b.Stream, api.Appended{First: b.First, Pos: len(s.all), Count: len(b.Events)}}
	}
	for i, e := range b.Events {
		pos := len(s.all)
		s.places[b.Stream] = append(s.places[b.Stream], pos)
		s.all = append(s.all, api.Entry{Pos: pos, Stream: b.Stream, Number: b.First + i, Event: apart(e)})
	}
}

func namesAllowed(stream, key string) bool {
	return stream != "" && len(stream) <= api.MaxName && len(key) <= api.MaxName
}

func eventsAllowed(l []api.Event) bool {
	return len(l) > 0 && len(l) <= api.MaxEvents && !slices.ContainsFunc(l, refused)
}

func refused(e api.Event) bool { return codec.Check(e) != api.OK }

// part is a list from a place on, most of it. It is the list's own memory: whoever hands it on copies it.
func part[T any](l []T, from, most int) ([]T, api.Errno) {
	if from < 0 || most < 0 {
		return nil, api.ErrArg
	}
	rest := l[min(from, len(l)):]
	return rest[:min(most, len(rest))], api.OK
}

// apart is an event whose fields are copied, so that it shares no memory with another one.
func apart(e api.Event) api.Event {
	fields := make([]api.Field, len(e.Fields))
	copy(fields, e.Fields)
	e.Fields = fields
	return e
}

// entryApart is an entry whose event is.
func entryApart(x api.Entry) api.Entry {
	x.Event = apart(x.Event)
	return x
}

// eventsApart are events of which each is.
func eventsApart(l []api.Event) []api.Event {
	to := make([]api.Event, len(l))
	for i, e := range l {
		to[i] = apart(e)
	}
	return to
}
