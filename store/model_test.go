package store

import (
	"fmt"
	"maps"
	"slices"
	"strings"

	"cartulary/api"
	"cartulary/codec"
)

// model is what a store is to be, by the chapter's words: the batches that were added, and what is saved under each name.
type model struct {
	blocks  int // of the device
	batches []api.Batch
	sizes   []int // of the segments
	saved   map[string]string
}

func (m *model) copy() *model {
	return &model{m.blocks, slices.Clone(m.batches), slices.Clone(m.sizes), maps.Clone(m.saved)}
}

// entries are all events, in their places.
func (m *model) entries() []api.Entry {
	var all []api.Entry
	for _, b := range m.batches {
		for i, e := range b.Events {
			all = append(all, api.Entry{Pos: len(all), Stream: b.Stream, Number: b.First + i, Event: e})
		}
	}
	return all
}

// of are a stream's.
func (m *model) of(stream string) []api.Entry {
	var l []api.Entry
	for _, x := range m.entries() {
		if x.Stream == stream {
			l = append(l, x)
		}
	}
	return l
}

func (m *model) length() int {
	n := 0
	for _, b := range m.batches {
		n += len(b.Events)
	}
	return n
}

func (m *model) version(stream string) int {
	n := 0
	for _, b := range m.batches {
		if b.Stream == stream {
			n += len(b.Events)
		}
	}
	return n
}

func (m *model) keyed(key string) (string, api.Appended, bool) {
	pos := 0
	for _, b := range m.batches {
		if key != "" && b.Key == key {
			return b.Stream, api.Appended{First: b.First, Pos: pos, Count: len(b.Events)}, true
		}
		pos += len(b.Events)
	}
	return "", api.Appended{}, false
}

// streams are the names of all streams, and keys are all keys.
func (m *model) streams() []string {
	names := map[string]int{}
	for _, b := range m.batches {
		names[b.Stream]++
	}
	return rising(slices.Collect(maps.Keys(names)))
}

func (m *model) keys() []string {
	var l []string
	for _, b := range m.batches {
		if b.Key != "" {
			l = append(l, b.Key)
		}
	}
	return l
}

// names are those under which something is saved.
func (m *model) names() []string { return rising(slices.Collect(maps.Keys(m.saved))) }

// rising are texts, sorted byte by byte.
func rising(l []string) []string {
	slices.SortFunc(l, func(a, b string) int { return slices.Compare([]byte(a), []byte(b)) })
	return l
}

// counted is how many blocks so many bytes need, counted one by one.
func counted(size int) int {
	k := 0
	for ; size > 0; size -= 512 {
		k++
	}
	return k
}

// countedAll is how many blocks files of such sizes have.
func countedAll(sizes []int) int {
	k := 0
	for _, n := range sizes {
		k += counted(n)
	}
	return k
}

// free is how many blocks are free, where all is synced.
func (m *model) free() int {
	k := m.blocks - 36 - countedAll(m.sizes)
	for _, data := range m.saved {
		k -= counted(len(data))
	}
	return k
}

// try is what streams' Try answers, but for the batch.
func (m *model) try(stream string, expected int, key string, l []api.Event) (api.Appended, api.Errno) {
	if len(stream) < 1 || len(stream) > 60 || len(key) > 60 {
		return api.Appended{}, api.ErrStreamName
	}
	if owner, was, there := m.keyed(key); there {
		if owner != stream {
			return api.Appended{}, api.ErrStreamKey
		}
		was.Again = true
		return was, api.OK
	}
	if len(l) < 1 || len(l) > 16 || slices.ContainsFunc(l, func(e api.Event) bool { return codec.Check(e) != api.OK }) {
		return api.Appended{}, api.ErrStreamEvents
	}
	if expected < -1 {
		return api.Appended{}, api.ErrArg
	}
	n := m.version(stream)
	if expected >= 0 && expected != n {
		return api.Appended{}, api.ErrStreamVersion
	}
	return api.Appended{First: n, Pos: m.length(), Count: len(l)}, api.OK
}

// longer are the segments' sizes behind a frame more of so many bytes of Data.
func longer(sizes []int, data int) []int {
	n := 6 + data
	if data >= 128 {
		n++
	}
	sizes = slices.Clone(sizes)
	if len(sizes) == 0 || sizes[len(sizes)-1]+n > 8192 {
		return append(sizes, n)
	}
	sizes[len(sizes)-1] += n
	return sizes
}

// append is what an Append is to answer; what it adds is added.
func (m *model) append(stream string, expected int, key string, l []api.Event) (api.Appended, api.Errno) {
	a, e := m.try(stream, expected, key, l)
	if e != api.OK || a.Again {
		return a, e
	}
	b := api.Batch{Stream: stream, Key: key, First: a.First, Events: apart(l)}
	data, e := codec.PutBatch(nil, b)
	if e == api.ErrCodecLong {
		return api.Appended{}, api.ErrStoreLong
	}
	sizes := longer(m.sizes, len(data))
	if countedAll(sizes)-countedAll(m.sizes) > m.free() || len(sizes)+len(m.saved) > 64 {
		return api.Appended{}, api.ErrStoreSpace
	}
	m.batches, m.sizes = append(m.batches, b), sizes
	return a, api.OK
}

// apart are events that share no memory with others.
func apart(l []api.Event) []api.Event {
	l = slices.Clone(l)
	for i := range l {
		l[i].Fields = slices.Clone(l[i].Fields)
	}
	return l
}

// save is what a Save is to answer; what it saves is saved.
func (m *model) save(name, data string) api.Errno {
	files := len(m.sizes) + len(m.saved)
	if _, there := m.saved[name]; !there {
		files++
	}
	switch {
	case len(name) < 1 || len(name) > 30:
		return api.ErrStreamName
	case len(data) > 8000:
		return api.ErrStoreLong
	case files > 64 || counted(len(data)) > m.free(): // what was saved so has its blocks till then
		return api.ErrStoreSpace
	}
	m.saved[name] = data
	return api.OK
}

// drop is what a Drop is to answer; what it drops is gone.
func (m *model) drop(name string) api.Errno {
	if _, there := m.saved[name]; !there {
		return api.ErrStoreNone
	}
	delete(m.saved, name)
	return api.OK
}

// files are what the files are to be.
func (m *model) files() map[string]string {
	all := map[string]string{}
	var log []byte
	for _, b := range m.batches {
		data, _ := codec.PutBatch(nil, b)
		log, _ = codec.PutFrame(log, api.Frame{Kind: 1, Data: data})
	}
	for i, n := range m.sizes {
		all[fmt.Sprint("seg.", i)] = string(log[:n])
		log = log[n:]
	}
	for name, data := range m.saved {
		all["save."+name] = data
	}
	return all
}

// wantStreams is what is to be told of streams and keys, as tellStreams tells it.
func (m *model) wantStreams(keys, others []string) string {
	b := &strings.Builder{}
	b.WriteString(tellEntries(m.entries()))
	for _, name := range slices.Concat(m.streams(), others) {
		fmt.Fprintf(b, "%q has %d:\n%s", name, m.version(name), tellEntries(m.of(name)))
	}
	for _, key := range slices.Concat(keys, others) {
		stream, a, ok := m.keyed(key)
		fmt.Fprintf(b, "key %q: %q, %v, %v\n", key, stream, a, ok)
	}
	return b.String()
}

// want is what is to be told of a store, as tell tells it.
func (m *model) want(keys []string, others ...string) string {
	b := &strings.Builder{}
	fmt.Fprintf(b, "%d events, streams %q, names %q\n", m.length(), m.streams(), m.names())
	b.WriteString(m.wantStreams(keys, others))
	for _, name := range slices.Concat(m.names(), others) {
		data, there := m.saved[name]
		e := api.OK
		if !there {
			e = api.ErrStoreNone
		}
		fmt.Fprintf(b, "saved %q: %q, %d\n", name, data, e)
	}
	return b.String()
}
