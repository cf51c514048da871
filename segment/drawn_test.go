package segment

import (
	"fmt"
	"maps"
	"math/rand"
	"slices"
	"testing"

	"cartulary/api"
)

// drawnFrames are some frames, mostly few, now and then one that is too long.
func drawnFrames(r *rand.Rand) []api.Frame {
	var l []api.Frame
	for range []int{0, 1, 1, 1, 2, 3, 5, r.Intn(20)}[r.Intn(8)] {
		n := []int{r.Intn(20), r.Intn(200), 120 + r.Intn(16), r.Intn(2001), 2000 - r.Intn(3)}[r.Intn(5)]
		if r.Intn(200) == 0 {
			n = 2001
		}
		l = append(l, frame(r.Intn(256), n))
	}
	return l
}

// drawnOthers lets others do something to their files, or nothing.
func drawnOthers(r *rand.Rand, w *world) {
	w.t.Helper()
	name := fmt.Sprint("o", r.Intn(4))
	_, there := w.others[name]
	switch r.Intn(6) {
	case 0:
		if there {
			w.remove(name)
		} else if n := r.Intn(3000); counted(n) <= w.v.Free() {
			w.put(name, text(n, n))
		}
	case 1:
		if r.Intn(2) == 0 {
			w.sync()
		}
	case 2:
		if r.Intn(2) == 0 {
			w.reset()
		}
	}
}

// P9.2, P9.3, P9.5: many runs of Appends, drawn: what is answered and told, and the files, by the chapter's words; no segment has more than SegSize bytes.
func TestDrawn(t *testing.T) {
	for seed := range 150 {
		t.Run(fmt.Sprint(seed), func(t *testing.T) {
			t.Parallel()
			r := rand.New(rand.NewSource(int64(seed)))
			w := begin(t, []int{64, 70, 128, 300, 512}[seed%5])
			answers := map[api.Errno]int{}
			for range 120 {
				drawnOthers(r, w)
				answers[w.append(drawnFrames(r)...)]++
				if slices.ContainsFunc(w.l.Segments(), func(n int) bool { return n > 8192 || n == 0 }) {
					t.Fatalf("%v", w.l.Segments())
				}
				if r.Intn(10) == 0 {
					w.reopen()
				}
				if r.Intn(5) == 0 {
					w.is()
				}
			}
			w.is()
			if answers[api.OK] == 0 {
				t.Errorf("%v", answers)
			}
		})
	}
}

// P9.5: how frames are cut into Appends is not seen: the files are the same.
func TestCutsAreNotSeen(t *testing.T) {
	for seed := range 30 {
		r := rand.New(rand.NewSource(int64(seed)))
		var all []api.Frame
		for range 3 + r.Intn(60) {
			all = append(all, frame(r.Intn(256), r.Intn(2001)))
		}
		whole := begin(t, 512)
		whole.append(all...)
		cut := begin(t, 512)
		for rest := all; len(rest) > 0; {
			n := min(len(rest), r.Intn(9))
			cut.append(rest[:n]...)
			rest = rest[n:]
		}
		whole.is()
		if !maps.Equal(content(t, whole.v), content(t, cut.v)) || tell(t, whole.v, whole.l) != tell(t, cut.v, cut.l) {
			t.Errorf("seed %d: they are unlike", seed)
		}
	}
}
