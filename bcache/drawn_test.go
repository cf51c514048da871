package bcache

import (
	"math/rand"
	"testing"
)

// drawnCall does one call of a key below keys.
func drawnCall(r *rand.Rand, b *both[int, int], keys int) {
	b.t.Helper()
	k := r.Intn(keys)
	switch r.Intn(12) {
	case 0, 1, 2, 3:
		b.put(k, r.Intn(1000), r.Intn(3) == 0)
	case 4, 5, 6:
		b.get(k)
	case 7:
		b.pin(k)
	case 8, 9:
		b.unpin(k)
	case 10:
		b.clean(k)
	default:
		b.drop(k)
	}
}

// P7.5, and all promises ahead of it: many runs of calls that are drawn.
func TestDrawnCalls(t *testing.T) {
	r := rand.New(rand.NewSource(16))
	for range 400 {
		n := 1 + r.Intn(8)
		b := pair[int, int](t, n)
		keys := 1 + r.Intn(2*n+2)
		for range 150 {
			drawnCall(r, b, keys)
			b.is()
		}
		b.isWhole()
	}
}

// P7.5: what is pinned stays, whatever is put; what is got is what was put last.
func TestPinnedUnderPuts(t *testing.T) {
	r := rand.New(rand.NewSource(18))
	for range 100 {
		n := 2 + r.Intn(6)
		c, _ := New[int, int](n)
		last := map[int]int{}
		for k := range n - 1 {
			c.Put(k, k, false)
			c.Pin(k)
			last[k] = k
		}
		for range 200 {
			k, v := r.Intn(3*n), r.Intn(1000)
			gone, value, went, _, _ := c.Put(k, v, r.Intn(2) == 0)
			if went && (gone < n-1 || value != last[gone]) {
				t.Fatalf("%d went, with %d", gone, value)
			}
			last[k] = v
			x := r.Intn(3 * n)
			if got, ok := c.Get(x); ok && got != last[x] || x < n-1 && !ok {
				t.Fatalf("Get(%d): %d, %v", x, got, ok)
			}
			if c.Len() > n {
				t.Fatalf("Len: %d", c.Len())
			}
		}
	}
}

// P7.5: the greatest cache.
func TestDrawnCallsOfMost(t *testing.T) {
	r := rand.New(rand.NewSource(19))
	b := numbers(t, 1024)
	for i := range 3000 {
		drawnCall(r, b, 1500)
		if i%300 == 0 {
			b.is()
		}
	}
	b.isWhole()
}
