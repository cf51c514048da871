package bcache

import (
	"math/rand"
	"runtime"
	"slices"
	"testing"
	"weak"

	"cartulary/api"
)

// nothing asks that a cache tells nothing, and answers these errors.
func nothing(t *testing.T, c *Cache[int, string], put, others api.Errno) {
	t.Helper()
	for _, k := range []int{least, -1, 0, 1, most} {
		if v, ok := c.Get(k); v != "" || ok {
			t.Errorf("Get(%d): %s, %v", k, v, ok)
		}
		for _, dirty := range []bool{false, true} {
			if x, v, went, was, e := c.Put(k, "a", dirty); x != 0 || v != "" || went || was || e != put {
				t.Errorf("Put(%d): %d, %s, %v, %v, %d", k, x, v, went, was, e)
			}
		}
		for i, e := range []api.Errno{c.Pin(k), c.Unpin(k), c.Clean(k), c.Drop(k)} {
			if e != others {
				t.Errorf("call %d of key %d: %d", i, k, e)
			}
		}
		if n, keys, dirty := c.Len(), c.Keys(), c.Dirty(); n != 0 || len(keys) != 0 || len(dirty) != 0 {
			t.Errorf("%d, %v, %v", n, keys, dirty)
		}
	}
}

// R1: on no cache nothing is done, and nothing told; one key that cannot be compared does not change that.
func TestNoCache(t *testing.T) {
	nothing(t, nil, api.ErrArg, api.ErrArg)
	var c *Cache[any, int]
	if e := c.Drop([]int{}); e != api.ErrArg {
		t.Errorf("Drop: %d", e)
	}
}

// R1: a cache that is made by hand has room for nothing.
func TestHandMadeCache(t *testing.T) {
	nothing(t, &Cache[int, string]{}, api.ErrCacheFull, api.ErrCacheNone)
}

// R1: a copy made by hand is the same cache.
func TestCopyByHand(t *testing.T) {
	r := rand.New(rand.NewSource(17))
	b := pair[int, int](t, 4)
	c := b.c
	hand := *c
	for range 2000 {
		b.c = []*Cache[int, int]{c, &hand}[r.Intn(2)]
		drawnCall(r, b, 7)
		b.is()
	}
}

// R4: what Keys and Dirty answer is the asker's own, its spare room too.
func TestListsApart(t *testing.T) {
	for _, n := range []int{1, 2, 3, 5, 9, 1000} {
		b := pair[int, int](t, n)
		for k := range n {
			b.put(k+1, k, true)
		}
		lists := [][]int{b.c.Keys(), b.c.Dirty(), b.c.Keys(), b.c.Dirty()}
		want := slices.Clone(lists[0])
		for i, l := range lists {
			if !slices.Equal(l, want) {
				t.Errorf("list %d: %v", i, l)
			}
			l = l[:cap(l)]
			for j := range l {
				l[j] = -1
			}
		}
		b.isWhole()
	}
}

// R3, R4: a list stays what it was, whatever is called then.
func TestListsStay(t *testing.T) {
	b := numbers(t, 4)
	keys, dirty := b.c.Keys(), b.c.Dirty()
	b.drop(2)
	b.clean(4)
	b.get(1)
	b.put(9, 9, true)
	b.put(8, 8, true)
	if !slices.Equal(keys, []int{1, 2, 3, 4}) || !slices.Equal(dirty, []int{2, 4}) {
		t.Errorf("%v, %v", keys, dirty)
	}
}

// Two caches have nothing in common.
func TestCachesApart(t *testing.T) {
	a, b := numbers(t, 3), numbers(t, 3)
	a.put(9, 90, true)
	a.pin(9)
	a.drop(2)
	b.isWhole()
	a.isWhole()
}

// What has gone is kept no longer.
func TestNotKept(t *testing.T) {
	c, _ := New[int, *[100]int](2)
	var gone []weak.Pointer[[100]int]
	put := func(k int) {
		v := &[100]int{k}
		gone = append(gone, weak.Make(v))
		c.Put(k, v, k%2 == 0)
	}
	for k := range 10 {
		put(k)
	}
	c.Drop(9)
	put(8) // the elder value of a key that is there goes too
	for range 3 {
		runtime.GC()
	}
	last := len(gone) - 1
	for i, p := range gone {
		if (p.Value() != nil) != (i == last) {
			t.Errorf("value %d: kept: %v", i, p.Value() != nil)
		}
	}
	runtime.KeepAlive(c)
}
