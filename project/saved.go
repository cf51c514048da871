package project

import (
	"cartulary/api"
	"cartulary/codec"
)

// savedAs is the name under which a view is saved.
func savedAs(name string) string { return "view." + name }

// parts are the bytes of a list's items, one behind the other.
func parts[T any](l []T, put func(x T) []byte) []byte {
	var b []byte
	for _, x := range l {
		b = append(b, put(x)...)
	}
	return b
}

func putRow(r api.Row) []byte { return codec.PutInt(codec.PutText(nil, r.Key), r.N) }

// lay is what is saved: how many events were taken, and the rows.
func lay(t taken) []byte {
	return append(codec.PutInt(nil, t.cursor), parts(t.list(), putRow)...)
}

// cursorOf is of how many events that is which lay has laid; of no such bytes it may be any number.
func cursorOf(b []byte) int {
	n, _, _ := codec.Int(b)
	return n
}
