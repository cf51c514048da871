package codec

import (
	"bytes"

	"cartulary/api"
)

// mostFirst is the greatest number that a batch's first event may have in its stream.
const mostFirst = 1 << 40

// What stands ahead of a field's value.
const (
	markInt  = 0
	markText = 1
)

// Check tells what is wrong with an event.
func Check(e api.Event) api.Errno {
	if !nameAllowed(e.Type) || e.Version < 0 || e.Version > api.MaxVersion || len(e.Fields) > api.MaxFields {
		return api.ErrCodecEvent
	}
	for i, f := range e.Fields {
		if !fieldAllowed(f) || hasField(e.Fields[:i], f.Name) {
			return api.ErrCodecEvent
		}
	}
	return api.OK
}

func nameAllowed(s string) bool { return s != "" && len(s) <= api.MaxName }

// fieldAllowed asks that what a field does not use is empty, too: it would not be laid, and so not be read again.
func fieldAllowed(f api.Field) bool {
	if !nameAllowed(f.Name) {
		return false
	}
	if f.Text {
		return len(f.S) <= api.MaxText && f.N == 0
	}
	return f.S == ""
}

func hasField(fields []api.Field, name string) bool {
	for _, f := range fields {
		if f.Name == name {
			return true
		}
	}
	return false
}

// PutBatch appends a batch.
func PutBatch(b []byte, x api.Batch) ([]byte, api.Errno) {
	if e := checkBatch(x); e != api.OK {
		return nil, e
	}
	laid := layBatch(x)
	if len(laid) > api.MaxFrame {
		return nil, api.ErrCodecLong
	}
	return append(closed(b), laid...), api.OK
}

func checkBatch(x api.Batch) api.Errno {
	if !nameAllowed(x.Stream) || len(x.Key) > api.MaxName || x.First < 0 || x.First > mostFirst {
		return api.ErrCodecForm
	}
	if len(x.Events) == 0 || len(x.Events) > api.MaxEvents {
		return api.ErrCodecForm
	}
	for _, e := range x.Events {
		if c := Check(e); c != api.OK {
			return c
		}
	}
	return api.OK
}

func layBatch(x api.Batch) []byte {
	b := layText(nil, x.Stream)
	b = layText(b, x.Key)
	b = layUint(b, uint64(x.First))
	b = layUint(b, uint64(len(x.Events)))
	for _, e := range x.Events {
		b = layEvent(b, e)
	}
	return b
}

func layEvent(b []byte, e api.Event) []byte {
	b = layText(b, e.Type)
	b = layUint(b, uint64(e.Version))
	b = layUint(b, uint64(len(e.Fields)))
	for _, f := range e.Fields {
		b = layField(b, f)
	}
	return b
}

func layField(b []byte, f api.Field) []byte {
	b = layText(b, f.Name)
	if f.Text {
		return layText(append(b, markText), f.S)
	}
	return layInt(append(b, markInt), f.N)
}

// Batch reads one, of all bytes.
func Batch(b []byte) (api.Batch, api.Errno) {
	r := reader{rest: b}
	x := r.batch()
	// The promise is told by PutBatch, so PutBatch judges what was read.
	if laid, e := PutBatch(nil, x); e != api.OK || !bytes.Equal(laid, b) {
		return api.Batch{}, api.ErrCodecForm
	}
	return x, api.OK
}

// reader reads a batch's parts one behind the other. It keeps no error: behind the first wrong part it has nothing left, all others read as zero values, and what is laid of those is not what was read.
type reader struct {
	rest []byte
}

func (r *reader) take(k int, e api.Errno) {
	if e != api.OK {
		r.rest = nil
		return
	}
	r.rest = r.rest[k:]
}

// number is at most most, so that it fits an int, and no list is as long as wrong bytes ask.
func (r *reader) number(most int) int {
	n, k, e := Uint(r.rest)
	if n > uint64(most) {
		n, e = 0, api.ErrCodecForm
	}
	r.take(k, e)
	return int(n)
}

func (r *reader) integer() int {
	n, k, e := Int(r.rest)
	r.take(k, e)
	return n
}

func (r *reader) text(most int) string {
	s, k, e := Text(r.rest, most)
	r.take(k, e)
	return s
}

func (r *reader) batch() api.Batch {
	var x api.Batch
	x.Stream = r.text(api.MaxName)
	x.Key = r.text(api.MaxName)
	x.First = r.number(mostFirst)
	x.Events = make([]api.Event, r.number(api.MaxEvents))
	for i := range x.Events {
		x.Events[i] = r.event()
	}
	return x
}

func (r *reader) event() api.Event {
	var e api.Event
	e.Type = r.text(api.MaxName)
	e.Version = r.number(api.MaxVersion)
	e.Fields = make([]api.Field, r.number(api.MaxFields))
	for i := range e.Fields {
		e.Fields[i] = r.field()
	}
	return e
}

func (r *reader) field() api.Field {
	var f api.Field
	f.Name = r.text(api.MaxName)
	f.Text = r.number(markText) == markText
	if f.Text {
		f.S = r.text(api.MaxText)
	} else {
		f.N = r.integer()
	}
	return f
}
