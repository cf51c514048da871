package command

import (
	"strings"

	"cartulary/api"
)

// A job goes on from step to step; what it keeps of commands and rules is copied, so that nothing of what was handed in is kept, texts included.

// commandApart is a command in memory of its own.
func commandApart(c api.Command) api.Command {
	c.Stream, c.Name, c.Key = strings.Clone(c.Stream), strings.Clone(c.Name), strings.Clone(c.Key)
	c.Fields = fieldsApart(c.Fields)
	return c
}

// eventsApart are events in memory of their own.
func eventsApart(l []api.Event) []api.Event {
	to := make([]api.Event, len(l))
	for i, e := range l {
		to[i] = api.Event{Type: strings.Clone(e.Type), Version: e.Version, Fields: fieldsApart(e.Fields)}
	}
	return to
}

// fieldsApart are fields in memory of their own.
func fieldsApart(l []api.Field) []api.Field {
	to := make([]api.Field, len(l))
	for i, f := range l {
		to[i] = api.Field{Name: strings.Clone(f.Name), Text: f.Text, N: f.N, S: strings.Clone(f.S)}
	}
	return to
}
