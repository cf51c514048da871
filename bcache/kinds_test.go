package bcache

import (
	"math"
	"testing"

	"cartulary/api"
)

// place is a key with parts.
type place struct {
	name string
	n    [2]int
	to   *int
}

// full fills a cache of three with four, and does each call on one of them.
func full[K, V comparable](t *testing.T, keys [4]K, values [4]V) {
	t.Helper()
	b := pair[K, V](t, 3)
	for i, k := range keys[:3] {
		b.put(k, values[i], i == 0)
		b.isWhole()
	}
	b.get(keys[1])
	b.goes(keys[3], values[3], true, kept[K, V]{key: keys[0], value: values[0], dirty: true})
	b.isWhole()
	b.put(keys[0], values[1], false)
	b.isWhole()
	b.get(keys[2])
	for _, k := range keys {
		b.pin(k)
		b.clean(k)
		b.isWhole()
	}
	b.put(keys[2], values[0], true)
	for _, k := range keys {
		b.unpin(k)
		b.drop(k)
		b.isWhole()
	}
}

// Keys and values of more than one kind.
func TestKinds(t *testing.T) {
	n := [4]int{3, 3, 3, 3}
	texts := [4]string{"", "\x00", "b", "\xff\xfe"}
	pointers := [4]*int{&n[0], &n[1], &n[2], nil}
	places := [4]place{{}, {"a", [2]int{1, 2}, nil}, {"a", [2]int{1, 2}, &n[0]}, {"a", [2]int{1, 2}, &n[1]}}
	full(t, [4]int{0, least, most, -1}, texts)
	full(t, texts, [4]int{0, least, most, -1})
	full(t, pointers, places)
	full(t, places, pointers)
	full(t, [4][2]byte{{}, {0, 1}, {1, 0}, {1, 1}}, [4]error{nil, api.OK, api.ErrArg, nil})
	full(t, [4]any{nil, 1, "1", int8(1)}, [4]any{0, nil, "x", 1.5})
	full(t, [4]float64{0, math.Inf(1), math.Inf(-1), 0.5}, [4]bool{true, false, true, false})
}

// Values that cannot be compared are kept as they are.
func TestValuesOfAnyKind(t *testing.T) {
	c, _ := New[string, []byte](1)
	c.Put("a", []byte("xyz"), true)
	if v, ok := c.Get("a"); string(v) != "xyz" || !ok {
		t.Errorf("Get: %s, %v", v, ok)
	}
	if k, v, went, was, e := c.Put("b", nil, false); k != "a" || string(v) != "xyz" || !went || !was || e != api.OK {
		t.Errorf("Put: %s, %s, %v, %v, %d", k, v, went, was, e)
	}
	f, _ := New[int, func() int](1)
	f.Put(1, func() int { return 7 }, false)
	if v, ok := f.Get(1); !ok || v() != 7 {
		t.Errorf("Get: %v", ok)
	}
	if v, ok := f.Get(2); ok || v != nil {
		t.Errorf("Get: %v", ok)
	}
}

// Zero values as keys and values are things as others are.
func TestZeroThings(t *testing.T) {
	b := pair[int, int](t, 2)
	b.get(0)
	b.put(0, 0, false)
	b.get(0)
	b.put(1, 0, false)
	b.goes(2, 0, false, kept[int, int]{})
	b.isWhole()
}

// A key that is like no other, nor like itself, is never found, but has its place as others have, and goes as they go.
func TestKeysLikeNone(t *testing.T) {
	c, _ := New[float64, int](3)
	for i := range 50 {
		k, v, went, was, e := c.Put(math.NaN(), i, i%2 == 0)
		if e != api.OK || went != (i >= 3) || was != (went && (i-3)%2 == 0) || went && (k == k || v != i-3) {
			t.Fatalf("Put %d: %v, %d, %v, %v, %d", i, k, v, went, was, e)
		}
		if c.Len() != min(i+1, 3) || len(c.Keys()) != c.Len() || len(c.by) != 0 {
			t.Fatalf("%d things, %d keys, %d found", c.Len(), len(c.Keys()), len(c.by))
		}
	}
	nan := math.NaN()
	if v, ok := c.Get(nan); v != 0 || ok {
		t.Errorf("Get: %d, %v", v, ok)
	}
	for _, e := range []api.Errno{c.Pin(nan), c.Unpin(nan), c.Clean(nan), c.Drop(nan)} {
		if e != api.ErrCacheNone {
			t.Errorf("%d", e)
		}
	}
	for i := range 3 {
		if _, v, went, _, e := c.Put(float64(i), 0, false); v != 47+i || !went || e != api.OK {
			t.Errorf("Put: %d, %v, %d", v, went, e)
		}
	}
	if c.Len() != 3 || c.Drop(1) != api.OK || c.Len() != 2 || len(c.by) != 2 {
		t.Errorf("%v", c.Keys())
	}
}

// Keys that are alike are one, and it stays that which was put first.
func TestKeysAlike(t *testing.T) {
	c, _ := New[float64, int](3)
	c.Put(0, 1, false)
	c.Put(math.Copysign(0, -1), 2, false)
	if l := c.Keys(); len(l) != 1 || math.Signbit(l[0]) {
		t.Errorf("Keys: %v", l)
	}
	if v, ok := c.Get(0); v != 2 || !ok {
		t.Errorf("Get: %d, %v", v, ok)
	}
}

// R1: a key that cannot be compared is refused by Put, and is never there.
func TestKeysNotCompared(t *testing.T) {
	b := pair[any, int](t, 2)
	for n := range 4 {
		if n > 0 {
			b.put(n, n, true)
		}
		for _, k := range []any{[]int{1}, map[int]int{}, func() {}, [1]any{[]int{}}, struct{ f, a any }{math.NaN(), []int{}}} {
			if v, ok := b.c.Get(k); v != 0 || ok {
				t.Errorf("Get: %d, %v", v, ok)
			}
			if x, v, went, was, e := b.c.Put(k, 1, true); x != nil || v != 0 || went || was || e != api.ErrArg {
				t.Errorf("Put: %v, %d, %v, %v, %d", x, v, went, was, e)
			}
			for _, e := range []api.Errno{b.c.Pin(k), b.c.Unpin(k), b.c.Clean(k), b.c.Drop(k)} {
				if e != api.ErrCacheNone {
					t.Errorf("%d", e)
				}
			}
			b.isWhole()
		}
	}
}
