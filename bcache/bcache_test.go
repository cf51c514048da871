package bcache

import (
	"slices"
	"testing"

	"cartulary/api"
)

// The chapter's examples, word by word.
func TestExamples(t *testing.T) {
	b := pair[int, string](t, 2)
	b.put(1, "a", false)
	b.put(2, "b", true)
	b.get(1)
	b.goes(3, "c", false, kept[int, string]{key: 2, value: "b", dirty: true})
	if got := b.c.Keys(); !slices.Equal(got, []int{1, 3}) {
		t.Errorf("Keys: %v", got)
	}
	b.pin(1)
	b.pin(3)
	if k, v, went, was, e := b.c.Put(4, "d", true); k != 0 || v != "" || went || was || e != api.ErrCacheFull {
		t.Errorf("Put: %v, %v, %v, %v, %v", k, v, went, was, e)
	}
	if e, f, g := b.c.Unpin(1), b.c.Unpin(1), b.c.Drop(3); e != api.OK || f != api.ErrCachePin || g != api.ErrCachePin {
		t.Errorf("%d, %d, %d", e, f, g)
	}
	b.put(1, "e", true)
	b.put(1, "f", false)
	if got := b.c.Dirty(); !slices.Equal(got, []int{1}) {
		t.Errorf("Dirty: %v", got)
	}
	b.clean(1)
	if got := b.c.Dirty(); len(got) != 0 {
		t.Errorf("Dirty: %v", got)
	}
}

// The errors' numbers.
func TestErrors(t *testing.T) {
	for e, n := range map[api.Errno]int{api.ErrArg: 1, api.ErrCacheFull: 70, api.ErrCacheNone: 71, api.ErrCachePin: 72} {
		if int(e) != n {
			t.Errorf("%d, but is to be %d", e, n)
		}
	}
	b := numbers(t, 1)
	if e := b.c.Drop(2); e != 71 {
		t.Errorf("Drop: %d", e)
	}
	if e := b.c.Unpin(1); e != 72 {
		t.Errorf("Unpin: %d", e)
	}
	b.pin(1)
	if _, _, _, _, e := b.c.Put(2, 20, false); e != 70 {
		t.Errorf("Put: %d", e)
	}
	if _, e := New[int, int](0); e != 1 {
		t.Errorf("New: %d", e)
	}
}

// P7.1: how many things may be.
func TestNew(t *testing.T) {
	for _, n := range []int{least, least + 1, -1024, -1, 0, 1025, 1026, 2048, 1 << 32, 1<<32 + 1, most} {
		if c, e := New[int, int](n); c != nil || e != api.ErrArg {
			t.Errorf("New(%d): %v, %d", n, c, e)
		}
	}
	for _, n := range []int{1, 2, 3, 1023, 1024} {
		pair[int, int](t, n).isWhole()
	}
}

// P7.1, P7.2, P7.5: it has just so many things, and no more; the elder ones go in their order.
func TestMost(t *testing.T) {
	for _, n := range []int{1, 2, 3, 1023, 1024} {
		b := pair[int, int](t, n)
		for k := range n {
			if b.c.Len() != k {
				t.Fatalf("Len: %d, but is to be %d", b.c.Len(), k)
			}
			b.put(k, -k, k%3 == 0)
		}
		b.is()
		for k := range n + 1 {
			was := kept[int, int]{key: k, value: -k, dirty: k%3 == 0}
			b.goes(n+k, -n-k, (n+k)%3 == 0, was)
			if b.c.Len() != n {
				t.Fatalf("Len: %d, but is to be %d", b.c.Len(), n)
			}
			b.get(k)
		}
		b.isWhole()
	}
}

// P7.2: a cache that lacks one of being full lets nothing go; nor does one from which a thing was dropped.
func TestLacksOne(t *testing.T) {
	b := pair[int, int](t, 3)
	b.put(1, 10, true)
	b.put(2, 20, true)
	b.put(3, 30, true)
	b.isWhole()
	for _, k := range []int{1, 3, 2} {
		b.drop(k)
		b.isWhole()
		b.put(k, -k, false)
		b.isWhole()
	}
}

// P7.2: Get tells the value, and uses the thing, wherever it stands.
func TestGetUses(t *testing.T) {
	for k := 1; k <= 4; k++ {
		b := numbers(t, 4)
		b.get(k)
		b.is()
		want := slices.DeleteFunc([]int{1, 2, 3, 4}, func(x int) bool { return x == k })
		if got := b.c.Keys(); !slices.Equal(got, append(want, k)) {
			t.Errorf("Keys: %v", got)
		}
		b.goes(5, 50, false, kept[int, int]{key: want[0], value: 10 * want[0], dirty: want[0]%2 == 0})
		b.isWhole()
	}
}

// P7.2: a Get that finds nothing changes nothing.
func TestGetOfNothing(t *testing.T) {
	for n := range 4 {
		b := pair[int, int](t, 3)
		for k := 1; k <= n; k++ {
			b.put(k, 10*k, k == 2)
		}
		for _, k := range []int{0, 4, -1, least, most} {
			if v, ok := b.c.Get(k); v != 0 || ok {
				t.Errorf("Get(%d): %d, %v", k, v, ok)
			}
			b.isWhole()
		}
	}
}

// P7.2: Put of a key that is there lets nothing go, and uses it.
func TestPutAgain(t *testing.T) {
	for k := 1; k <= 4; k++ {
		b := numbers(t, 4)
		b.put(k, 7, false)
		b.is()
		if got := b.c.Keys(); got[3] != k {
			t.Errorf("Keys: %v", got)
		}
		if v, ok := b.c.Get(k); v != 7 || !ok {
			t.Errorf("Get(%d): %d, %v", k, v, ok)
		}
		b.isWhole()
	}
}

// P7.2: so it is where all things are pinned; they stay so.
func TestPutAgainAllPinned(t *testing.T) {
	b := numbers(t, 3)
	for k := 1; k <= 3; k++ {
		b.pin(k)
	}
	for k := 1; k <= 3; k++ {
		b.put(k, -k, false)
		b.isWhole()
		b.put(4, 40, true)
		b.isWhole()
	}
}

// P7.2: a thing is dirty if it was or dirty is true; Clean alone makes it other.
func TestDirtyAgain(t *testing.T) {
	for _, first := range []bool{false, true} {
		for _, second := range []bool{false, true} {
			b := pair[int, int](t, 2)
			b.put(1, 1, first)
			b.put(1, 2, second)
			if got := len(b.c.Dirty()) == 1; got != (first || second) {
				t.Errorf("dirty: %v, %v: %v", first, second, got)
			}
			b.isWhole()
			b.put(2, 3, false)
			b.goes(3, 4, false, kept[int, int]{key: 1, value: 2, dirty: first || second})
		}
	}
}

// P7.2: what was dirty and has gone is not dirty when it comes again, nor pinned.
func TestComesAnew(t *testing.T) {
	b := pair[int, int](t, 1)
	b.put(1, 10, true)
	b.goes(2, 20, false, kept[int, int]{key: 1, value: 10, dirty: true})
	b.goes(1, 11, false, kept[int, int]{key: 2, value: 20})
	b.isWhole()
	b.pin(1)
	b.unpin(1)
	b.put(1, 12, true)
	b.drop(1)
	b.put(1, 13, false)
	b.isWhole()
	b.goes(3, 30, true, kept[int, int]{key: 1, value: 13})
}

// P7.2: of those that are not pinned that goes which was used longest ago, wherever the pinned ones stand.
func TestPinnedStays(t *testing.T) {
	for pinned := range 1 << 4 {
		b := numbers(t, 4)
		first := 0
		for k := 4; k >= 1; k-- {
			if pinned>>(k-1)&1 == 1 {
				b.pin(k)
			} else {
				first = k
			}
		}
		if first == 0 {
			b.put(5, 50, true)
			if b.c.Len() != 4 {
				t.Errorf("Len: %d", b.c.Len())
			}
		} else {
			b.goes(5, 50, true, kept[int, int]{key: first, value: 10 * first, dirty: first%2 == 0})
		}
		b.isWhole()
	}
}

// P7.2: all but one are pinned: it is always that one which goes, however late it was used.
func TestAllButOne(t *testing.T) {
	b := numbers(t, 1024)
	for k := 1; k < 1024; k++ {
		b.pin(k)
	}
	b.goes(2000, 1, false, kept[int, int]{key: 1024, value: 10240, dirty: true})
	b.goes(2001, 2, true, kept[int, int]{key: 2000, value: 1})
	b.goes(2002, 3, true, kept[int, int]{key: 2001, value: 2, dirty: true})
	b.pin(2002)
	b.put(2003, 4, true)
	b.unpin(1)
	b.goes(2003, 4, true, kept[int, int]{key: 1, value: 10})
	b.isWhole()
}

// P7.3: what is pinned several times is unpinned as often, and once more is too often.
func TestPins(t *testing.T) {
	for _, n := range []int{1, 2, 3, 100, 1000} {
		b := numbers(t, 1)
		for range n {
			if e := b.c.Pin(1); e != api.OK {
				t.Fatalf("Pin: %d", e)
			}
		}
		for range n {
			if e := b.c.Drop(1); e != api.ErrCachePin {
				t.Fatalf("Drop: %d", e)
			}
			if _, _, _, _, e := b.c.Put(2, 20, false); e != api.ErrCacheFull {
				t.Fatalf("Put: %d", e)
			}
			if e := b.c.Unpin(1); e != api.OK {
				t.Fatalf("Unpin: %d", e)
			}
		}
		for range 2 {
			if e := b.c.Unpin(1); e != api.ErrCachePin {
				t.Fatalf("Unpin: %d", e)
			}
		}
		b.isWhole()
		b.drop(1)
		b.isWhole()
	}
}

// P7.3: keys that are not there, of a cache that is empty, that is not and that is full.
func TestNotThere(t *testing.T) {
	for n := range 4 {
		b := pair[int, int](t, 3)
		for k := 1; k <= n; k++ {
			b.put(k, 10*k, true)
			b.pin(k)
		}
		for _, k := range []int{0, 4, -1, least, most} {
			for i, e := range []api.Errno{b.c.Pin(k), b.c.Unpin(k), b.c.Clean(k), b.c.Drop(k)} {
				if e != api.ErrCacheNone {
					t.Errorf("call %d of key %d: %d", i, k, e)
				}
			}
			b.isWhole()
		}
	}
}

// P7.3: nor is what has gone, or was dropped.
func TestNoMoreThere(t *testing.T) {
	b := numbers(t, 2)
	b.goes(3, 30, false, kept[int, int]{key: 1, value: 10})
	b.drop(2)
	for _, k := range []int{1, 2} {
		b.get(k)
		b.pin(k)
		b.unpin(k)
		b.clean(k)
		b.drop(k)
		b.isWhole()
	}
}

// P7.3: Pin, Unpin, Clean and Drop do not use a thing.
func TestNoUse(t *testing.T) {
	for k := 1; k <= 4; k++ {
		b := numbers(t, 4)
		b.pin(k)
		b.is()
		b.drop(k)
		b.is()
		b.unpin(k)
		b.is()
		b.unpin(k)
		b.is()
		b.clean(k)
		b.is()
		if got := b.c.Keys(); !slices.Equal(got, []int{1, 2, 3, 4}) {
			t.Errorf("Keys: %v", got)
		}
		b.goes(5, 50, false, kept[int, int]{key: 1, value: 10})
		b.drop(k)
		b.isWhole()
	}
}

// P7.3: Clean does not clean others, and what is clean may be cleaned; it is dirty again if it is put so.
func TestClean(t *testing.T) {
	b := numbers(t, 6)
	for _, k := range []int{4, 4, 1, 6, 2} {
		b.clean(k)
		b.isWhole()
	}
	b.put(4, 41, true)
	b.isWhole()
	b.goes(7, 70, true, kept[int, int]{key: 1, value: 10})
	b.goes(8, 80, true, kept[int, int]{key: 2, value: 20})
}

// P7.3: Drop takes the first, one of the middle, the last, the only one.
func TestDrop(t *testing.T) {
	for _, order := range [][]int{{1, 2, 3, 4}, {4, 3, 2, 1}, {2, 3, 1, 4}, {3, 1, 4, 2}} {
		b := numbers(t, 4)
		for _, k := range order {
			b.drop(k)
			b.isWhole()
			b.drop(k)
			b.isWhole()
		}
		for _, k := range order {
			b.put(k, k, false)
			b.isWhole()
		}
	}
}

// P7.4: the order of Keys and of Dirty is that of the uses, not that of the keys.
func TestOrder(t *testing.T) {
	b := pair[int, int](t, 5)
	for _, k := range []int{30, -10, 20, 0, -40} {
		b.put(k, k, k != 20)
	}
	if got := b.c.Keys(); !slices.Equal(got, []int{30, -10, 20, 0, -40}) {
		t.Errorf("Keys: %v", got)
	}
	b.get(-10)
	b.put(30, 1, false)
	if got := b.c.Keys(); !slices.Equal(got, []int{20, 0, -40, -10, 30}) {
		t.Errorf("Keys: %v", got)
	}
	if got := b.c.Dirty(); !slices.Equal(got, []int{0, -40, -10, 30}) {
		t.Errorf("Dirty: %v", got)
	}
	for range 3 { // neither is a use
		b.isWhole()
	}
}
