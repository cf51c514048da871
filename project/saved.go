package project

import (
	"cartulary/api"
	"cartulary/codec"
	"cartulary/store"
)

// savedAs is the name under which a view is saved.
func savedAs(name string) string { return "view." + name }

// parts are the bytes of a list's items, one behind the other.
func parts[T any](l []T, put func(x T) []byte) []byte {
	var b []byte
	for _, x := range l {
		b = append(b, put(x)...)
	}
	return b
}

// items are those of which parts makes these bytes, if there are such.
func items[T any](b []byte, get func(b []byte) (T, int, api.Errno)) ([]T, bool) {
	var l []T
	for len(b) > 0 {
		x, n, e := get(b)
		if e != api.OK {
			return nil, false
		}
		l = append(l, x)
		b = b[n:]
	}
	return l, true
}

func putRow(r api.Row) []byte { return codec.PutInt(codec.PutText(nil, r.Key), r.N) }

func getRow(b []byte) (api.Row, int, api.Errno) {
	key, k, e := codec.Text(b, api.MaxText)
	if e != api.OK {
		return api.Row{}, 0, e
	}
	n, m, e := codec.Int(b[k:])
	if e != api.OK {
		return api.Row{}, 0, e
	}
	return api.Row{Key: key, N: n}, k + m, api.OK
}

// lay is what is saved: the mark of the events, how many they are, the rows.
func lay(t taken) []byte {
	b := codec.PutInt(codec.Put32(nil, t.mark), t.cursor)
	return append(b, parts(t.list(), putRow)...)
}

// unlay reads what lay has laid; false: that is something else.
func unlay(b []byte) (taken, bool) {
	mark, e := codec.U32(b)
	if e != api.OK {
		return taken{}, false
	}
	cursor, n, e := codec.Int(b[4:])
	if e != api.OK {
		return taken{}, false
	}
	l, whole := items(b[4+n:], getRow)
	rows := make(map[string]int, len(l))
	for _, r := range l {
		rows[r.Key] = r.N
	}
	return taken{cursor, mark, rows}, whole
}

// isOf tells whether the events that were taken are the first ones of a store. A view that was saved may have taken another one's: it may be of more events than there are, and must not be taken for this one's when there are so many.
func (t taken) isOf(s *store.Store) bool {
	l, e := s.All(0, t.cursor)
	if e != api.OK || len(l) != t.cursor {
		return false
	}
	var mark uint32
	for _, x := range l {
		mark = markBehind(mark, x)
	}
	return mark == t.mark
}

// markBehind is the mark of events, one more than those of which a mark is: logs of unlike events have unlike marks. An entry that no store has may not be laid, and stands for any such.
func markBehind(mark uint32, x api.Entry) uint32 {
	b, _ := codec.PutBatch(nil, api.Batch{Stream: x.Stream, Events: []api.Event{x.Event}})
	return codec.Sum(append(codec.Put32(nil, mark), b...))
}
