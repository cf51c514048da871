package snapshot

import (
	"strconv"

	"cartulary/api"
	"cartulary/codec"
	"cartulary/sheet"
	"cartulary/store"
)

// kept is a state that was kept. The zero one is that of a stream without events: whoever has none goes on from there.
type kept struct {
	at    int // which of the stream's two names it lies under
	count int // of how many events it is
	state []api.Field
}

// names are those under which a stream's states are kept. A stream's name may be longer than they may be, so its sum stands in them; and since two streams may have one sum, the name itself stands in what is kept.
func names(stream string) [2]string {
	own := "snap." + strconv.FormatUint(uint64(codec.Sum([]byte(stream))), 16)
	return [2]string{own + ".0", own + ".1"}
}

// newest is the state of the most events that is kept of a stream. One of more events than there are was not made of these.
func newest(s *store.Store, stream string) (kept, api.Errno) {
	var best kept
	there := s.Version(stream)
	hold := func(k kept) {
		if k.count > best.count && k.count <= there {
			best = k
		}
	}
	for at, name := range names(stream) {
		data, e := s.Saved(name)
		switch e {
		case api.OK:
			count, state := unlay(data, stream)
			hold(kept{at, count, state})
		case api.ErrStoreNone:
		default:
			return kept{}, e
		}
	}
	return best, api.OK
}

// lay is what is saved of a stream's state: a sum of all behind it, the stream's name, how many events, the record's text. False: it is no record, or too long to be saved.
func lay(stream string, count int, state []api.Field) ([]byte, bool) {
	text, e := sheet.Write(state)
	if e != api.OK {
		return nil, false
	}
	b := codec.PutText(nil, stream)
	b = codec.PutInt(b, count)
	b = codec.PutText(b, text)
	b = append(codec.Put32(nil, codec.Sum(b)), b...)
	return b, len(b) <= api.MaxSaved
}

// unlay reads what lay has laid: how many events, and their state; none, where it is not whole, or another stream's.
func unlay(b []byte, stream string) (int, []api.Field) {
	sum, e := codec.U32(b)
	if e != api.OK || sum != codec.Sum(b[4:]) {
		return 0, nil
	}
	b = b[4:]
	name, n, e := codec.Text(b, api.MaxName)
	if e != api.OK || name != stream {
		return 0, nil
	}
	b = b[n:]
	count, n, e := codec.Int(b)
	if e != api.OK {
		return 0, nil
	}
	b = b[n:]
	text, n, e := codec.Text(b, api.MaxSaved)
	if e != api.OK || n != len(b) {
		return 0, nil
	}
	state, e := sheet.Read(text)
	if e != api.OK {
		return 0, nil
	}
	return count, state
}
