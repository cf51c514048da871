package segment

import (
	"testing"

	"cartulary/api"
)

// grown is a log with some frames.
func grown(t *testing.T) *world {
	t.Helper()
	w := begin(t, 128)
	w.append(frames(0, 1, 2000)...)
	w.append(frames(2000, 2000, 2000, 300)...)
	return w
}

// P9.2, R4: a range may be left at each frame, and ranged over again.
func TestAllLeftEarly(t *testing.T) {
	w := grown(t)
	seq := w.l.All()
	for stop := range w.frames {
		var got []api.Frame
		for n, f := range seq {
			got = append(got, f)
			if n == stop {
				break
			}
		}
		if tellFrames(got) != tellFrames(w.frames[:stop+1]) {
			t.Errorf("left at %d: %s", stop, brief(tellFrames(got)))
		}
		got = nil
		for _, f := range seq {
			got = append(got, f)
		}
		if tellFrames(got) != tellFrames(w.frames) {
			t.Errorf("again: %s", brief(tellFrames(got)))
		}
	}
	w.is()
}

// R4: the log as it is when the range begins, not when All is called.
func TestAllBegins(t *testing.T) {
	w := begin(t, 128)
	seq := w.l.All()
	for i := range 5 {
		n := 0
		for range seq {
			n++
		}
		if n != 2*i {
			t.Errorf("%d frames, not %d", n, 2*i)
		}
		w.append(frames(1, 2)...)
	}
}

// R4: a range goes through what was there when it began, while the log grows, within its last segment and beyond, and while Appends are refused.
func TestAllWhileItGrows(t *testing.T) {
	w := grown(t)
	for _, more := range [][]api.Frame{frames(1), frames(2000, 2000), {}, frames(5, 2001)} {
		was := w.frames
		var got []api.Frame
		for n, f := range w.l.All() {
			if n != len(got) {
				t.Errorf("the frame %d has the number %d", len(got), n)
			}
			got = append(got, f)
			w.append(more...)
		}
		if tellFrames(got) != tellFrames(was) {
			t.Errorf("%d frames, not %d", len(got), len(was))
		}
		w.is()
	}
	w.reopen()
	w.is()
}

// R4: two ranges of one log, one within the other, of which the inner one sees what has come.
func TestAllNested(t *testing.T) {
	w := grown(t)
	outer := 0
	begun := len(w.frames)
	for n, f := range w.l.All() {
		outer++
		w.append(frame(n, 7))
		inner := 0
		for m, g := range w.l.All() {
			if m == n && tellFrames([]api.Frame{f}) != tellFrames([]api.Frame{g}) {
				t.Errorf("the frame %d is another one", n)
			}
			inner++
		}
		if inner != begun+outer {
			t.Errorf("%d frames within, not %d", inner, begun+outer)
		}
	}
	if outer != begun {
		t.Errorf("%d frames, not %d", outer, begun)
	}
	w.is()
}
