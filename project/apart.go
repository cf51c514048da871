package project

import (
	"strings"

	"cartulary/api"
)

// A view goes on from event to event; what it keeps of projections and upcasters is copied, so that nothing of what was handed in is kept, texts included.

// each is a list of what one makes of each thing of a list.
func each[T any](l []T, one func(x T) T) []T {
	to := make([]T, 0, len(l))
	for _, x := range l {
		to = append(to, one(x))
	}
	return to
}

// sumsApart are sums in memory of their own: those of which something may come. The others have expressions that no event has a value of, and such as those may be parts of themselves, which could not be copied.
func sumsApart(l []api.Sum) []api.Sum {
	var to []api.Sum
	for _, x := range l {
		if wellFormed(x.Key) && wellFormed(x.Add) {
			to = append(to, api.Sum{Type: strings.Clone(x.Type), Key: exprApart(x.Key), Add: exprApart(x.Add)})
		}
	}
	return to
}

func exprApart(e api.Expr) api.Expr {
	return api.Expr{Kind: e.Kind, N: e.N, S: strings.Clone(e.S), Args: each(e.Args, exprApart)}
}

func upcastApart(u api.Upcast) api.Upcast {
	return api.Upcast{Type: strings.Clone(u.Type), From: u.From, Changes: each(u.Changes, changeApart)}
}

func changeApart(c api.Change) api.Change {
	return api.Change{Kind: c.Kind, Name: strings.Clone(c.Name), To: strings.Clone(c.To), F: fieldApart(c.F)}
}

func fieldApart(f api.Field) api.Field {
	return api.Field{Name: strings.Clone(f.Name), Text: f.Text, N: f.N, S: strings.Clone(f.S)}
}
