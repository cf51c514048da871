package bcache

import (
	"cmp"
	"slices"
	"testing"

	"cartulary/api"
)

const (
	most  = 1<<63 - 1
	least = -1 << 63
)

// kept is what a model has of a key: at is when it was used last.
type kept[K, V comparable] struct {
	key   K
	value V
	dirty bool
	pins  int
	at    int
}

// state is what a cache is to be: things in no order, and a count of all uses.
type state[K, V comparable] struct {
	most, uses int
	things     []kept[K, V]
}

func (s *state[K, V]) find(k K) *kept[K, V] {
	for i := range s.things {
		if s.things[i].key == k {
			return &s.things[i]
		}
	}
	return nil
}

func (s *state[K, V]) use(x *kept[K, V]) {
	s.uses++
	x.at = s.uses
}

func (s *state[K, V]) remove(k K) {
	s.things = slices.DeleteFunc(s.things, func(x kept[K, V]) bool { return x.key == k })
}

// sorted is the things, that first which was used longest ago.
func (s *state[K, V]) sorted() []kept[K, V] {
	return slices.SortedFunc(slices.Values(s.things), func(a, b kept[K, V]) int { return cmp.Compare(a.at, b.at) })
}

// answer is what Put answers.
type answer[K, V comparable] struct {
	key       K
	value     V
	went, was bool
	e         api.Errno
}

func (s *state[K, V]) put(k K, v V, dirty bool) answer[K, V] {
	if x := s.find(k); x != nil {
		x.value, x.dirty = v, x.dirty || dirty
		s.use(x)
		return answer[K, V]{}
	}
	var a answer[K, V]
	if len(s.things) == s.most {
		loose := slices.DeleteFunc(s.sorted(), func(x kept[K, V]) bool { return x.pins > 0 })
		if len(loose) == 0 {
			return answer[K, V]{e: api.ErrCacheFull}
		}
		a = answer[K, V]{loose[0].key, loose[0].value, true, loose[0].dirty, api.OK}
		s.remove(loose[0].key)
	}
	s.things = append(s.things, kept[K, V]{key: k, value: v, dirty: dirty})
	s.use(&s.things[len(s.things)-1])
	return a
}

// both is a cache, and what it is to be: each call is done on both, and all that can be told is held against one another.
type both[K, V comparable] struct {
	t *testing.T
	c *Cache[K, V]
	s state[K, V]
}

func pair[K, V comparable](t *testing.T, n int) *both[K, V] {
	t.Helper()
	c, e := New[K, V](n)
	if c == nil || e != api.OK {
		t.Fatalf("New(%d): %v, %v", n, c, e)
	}
	return &both[K, V]{t, c, state[K, V]{most: n}}
}

// numbers is a full cache of the keys 1 to n, the values ten times so much, the even ones dirty.
func numbers(t *testing.T, n int) *both[int, int] {
	t.Helper()
	b := pair[int, int](t, n)
	for k := 1; k <= n; k++ {
		b.put(k, 10*k, k%2 == 0)
	}
	return b
}

// answers puts, and asks for this answer.
func (b *both[K, V]) answers(k K, v V, dirty bool, want answer[K, V]) {
	b.t.Helper()
	var got answer[K, V]
	got.key, got.value, got.went, got.was, got.e = b.c.Put(k, v, dirty)
	if got != want {
		b.t.Fatalf("Put(%v, %v, %v): %v, but is to be %v", k, v, dirty, got, want)
	}
}

func (b *both[K, V]) put(k K, v V, dirty bool) {
	b.t.Helper()
	b.answers(k, v, dirty, b.s.put(k, v, dirty))
}

// goes puts what lets this thing go.
func (b *both[K, V]) goes(k K, v V, dirty bool, gone kept[K, V]) {
	b.t.Helper()
	b.s.put(k, v, dirty)
	b.answers(k, v, dirty, answer[K, V]{gone.key, gone.value, true, gone.dirty, api.OK})
}

func (b *both[K, V]) get(k K) {
	b.t.Helper()
	var v V
	x := b.s.find(k)
	if x != nil {
		v = x.value
		b.s.use(x)
	}
	if got, ok := b.c.Get(k); got != v || ok != (x != nil) {
		b.t.Fatalf("Get(%v): %v, %v, but is to be %v, %v", k, got, ok, v, x != nil)
	}
}

func (b *both[K, V]) tells(word string, k K, got, want api.Errno) {
	b.t.Helper()
	if got != want {
		b.t.Fatalf("%s(%v): %d, but is to be %d", word, k, got, want)
	}
}

func (b *both[K, V]) pin(k K) {
	b.t.Helper()
	want := api.ErrCacheNone
	if x := b.s.find(k); x != nil {
		x.pins++
		want = api.OK
	}
	b.tells("Pin", k, b.c.Pin(k), want)
}

func (b *both[K, V]) unpin(k K) {
	b.t.Helper()
	want := api.ErrCacheNone
	if x := b.s.find(k); x != nil && x.pins == 0 {
		want = api.ErrCachePin
	} else if x != nil {
		x.pins--
		want = api.OK
	}
	b.tells("Unpin", k, b.c.Unpin(k), want)
}

func (b *both[K, V]) clean(k K) {
	b.t.Helper()
	want := api.ErrCacheNone
	if x := b.s.find(k); x != nil {
		x.dirty = false
		want = api.OK
	}
	b.tells("Clean", k, b.c.Clean(k), want)
}

func (b *both[K, V]) drop(k K) {
	b.t.Helper()
	want := api.ErrCacheNone
	if x := b.s.find(k); x != nil && x.pins > 0 {
		want = api.ErrCachePin
	} else if x != nil {
		b.s.remove(k)
		want = api.OK
	}
	b.tells("Drop", k, b.c.Drop(k), want)
}

// is asks for all that can be told without a use: how many, which keys, which of them are dirty.
func (b *both[K, V]) is() {
	b.t.Helper()
	var keys, dirty []K
	for _, x := range b.s.sorted() {
		keys = append(keys, x.key)
		if x.dirty {
			dirty = append(dirty, x.key)
		}
	}
	if n := b.c.Len(); n != len(keys) || n > b.s.most {
		b.t.Fatalf("Len: %d, but is to be %d, at most %d", n, len(keys), b.s.most)
	}
	if got := b.c.Keys(); !slices.Equal(got, keys) {
		b.t.Fatalf("Keys: %v, but is to be %v", got, keys)
	}
	if got := b.c.Dirty(); !slices.Equal(got, dirty) {
		b.t.Fatalf("Dirty: %v, but is to be %v", got, dirty)
	}
}

// isWhole asks for the values and the pins too. It uses all things, but in the order in which they were used, which so stays what it was.
func (b *both[K, V]) isWhole() {
	b.t.Helper()
	b.is()
	for _, x := range b.s.sorted() {
		b.get(x.key)
		for range x.pins {
			b.unpin(x.key)
		}
		b.unpin(x.key)
		for range x.pins {
			b.pin(x.key)
		}
	}
	b.is()
}
