package segment

import (
	"fmt"
	"maps"
	"math/rand"
	"slices"
	"testing"

	"cartulary/api"
	"cartulary/blockdev"
	"cartulary/fsdir"
)

// openAll opens all that lies on a device.
func openAll(d *blockdev.Device) (*fsdir.FS, *Log, api.Errno) {
	v, e := fsdir.Mount(d)
	if e != api.OK {
		return nil, nil, e
	}
	l, e := Open(v)
	return v, l, e
}

// stays asks whether what is told behind a crash stays so: when all is opened again, through crashes, and where that stops ahead of each operation, so many times behind one another.
func stays(t testing.TB, seen known, d *blockdev.Device, want string, times int) {
	t.Helper()
	if seen.has(t, d, want, times) {
		return
	}
	c := d.Copy()
	for range 2 {
		v := mount(t, c)
		if got := tell(t, v, open(t, v)); got != want {
			t.Fatalf("%s\ndoes not stay, but is\n%s", brief(want), brief(got))
		}
		c.Crash([]int{1, 1, 1})
	}
	if times == 0 {
		return
	}
	for k := 0; ; k++ {
		c := d.Copy()
		c.Fuse(k)
		_, l, e := openAll(c)
		c.Fuse(-1)
		for _, y := range crashes(c) {
			stays(t, seen, y, want, times-1)
		}
		if e == api.OK {
			return
		}
		if l != nil || e != api.ErrDown || !c.Down() {
			t.Fatalf("stopped at %d, while it is opened: %v", k, e)
		}
	}
}

// scene is what was done ahead of an Append, and that.
type scene struct {
	name   string
	blocks int
	before func(*world)
	since  func(*world) // what others do and do not sync
	f      []api.Frame
	times  int // how often it stops behind that, while all is opened
}

func scenes() []scene {
	none := func(*world) {}
	return []scene{
		{"none", 64, none, none, nil, 2},
		{"none, behind others", 64, func(w *world) { w.append(frames(9, 700)...) }, func(w *world) { w.put("o", text(1, 600)) }, nil, 2},
		{"the first", 64, none, none, frames(5), 2},
		{"within a block", 64, func(w *world) { w.append(frames(5)...) }, none, frames(6, 7), 2},
		{"over two blocks", 64, func(w *world) { w.append(frames(490)...) }, none, frames(100), 2},
		{"a segment more", 64, func(w *world) { w.append(frames(2000, 2000, 2000, 2000)...) }, none, frames(164), 2},
		{"to its end, and a segment more", 64, func(w *world) { w.append(frames(2000, 2000, 2000, 2000)...) }, none, []api.Frame{longFrame(1, 164), frame(2, 0)}, 2},
		{"more than the cache has", 128, func(w *world) { w.append(frames(2000, 2000, 2000)...) }, none, slices.Repeat(frames(2000), 12), 1},
		{"with others", 64, func(w *world) {
			w.put("o", text(1, 800))
			w.append(frames(40)...)
		}, func(w *world) {
			w.remove("o")
			w.put("p", text(2, 700))
		}, frames(30, 900), 2},
	}
}

// begun is the world of a scene, in which what was done ahead is synced.
func (c scene) begun(t testing.TB) *world {
	t.Helper()
	w := begin(t, c.blocks)
	c.before(w)
	w.sync()
	return w
}

// P9.4: Appends that stop ahead of each operation, with each crash: all of their frames are left, or none; and it stays so.
func TestAppendsThatStop(t *testing.T) {
	for _, c := range scenes() {
		t.Run(c.name, func(t *testing.T) {
			t.Parallel()
			begun, seen, left := c.begun(t), known{}, map[bool]int{}
			for k := 0; ; k++ {
				w := begun.again()
				c.since(w)
				was, next := w.was(), w.next(c.f)
				w.d.Fuse(k)
				e := w.l.Append(c.f)
				w.d.Fuse(-1)
				for _, x := range crashes(w.d) {
					if seen.has(t, x, e == api.OK) {
						continue
					}
					got := told(t, x)
					if got != next && (got != was || e == api.OK) {
						t.Fatalf("stopped at %d: %s", k, brief(got))
					}
					left[got == next]++
					stays(t, seen, x, got, c.times)
				}
				if e == api.OK {
					break
				}
				if e != api.ErrDown || !w.d.Down() {
					t.Fatalf("stopped at %d: %v", k, e)
				}
				w.stands()
			}
			if was, next := begun.was(), begun.next(c.f); was != next && (left[true] == 0 || left[false] == 0) {
				t.Errorf("all and none: one of these is never left: %v", left)
			}
		})
	}
}

// stands asks that a log whose device is down tells what it told, and has nothing of the Append that stopped.
func (w *world) stands() {
	w.t.Helper()
	ops := w.d.Ops()
	if got := tellFrames(collected(w.t, w.l)); got != tellFrames(w.frames) || w.l.Len() != len(w.frames) || !slices.Equal(w.l.Segments(), w.sizes) {
		w.t.Fatalf("when it is down: %d frames, %v", w.l.Len(), w.l.Segments())
	}
	if w.d.Ops() != ops {
		w.t.Fatalf("%d operations", w.d.Ops()-ops)
	}
}

// tornScenes are segments, of which one is torn, or none is.
func tornScenes() map[string][]end {
	whole := end{"", frames(5, 600), ""}
	return map[string][]end{
		"none":    {whole, whole},
		"first":   {{"", frames(5, 600), "torn"}, whole, whole},
		"between": {whole, {"", frames(1500, 300), text(1, 600)}, whole},
		"last":    {whole, {"", nil, "torn"}},
	}
}

// P9.4, P9.1: Opens that stop ahead of each operation, with each crash: the frames are there, and the files are as they were, or as they are to be, with all that others did since the last Sync, or without.
func TestOpensThatStop(t *testing.T) {
	for name, l := range tornScenes() {
		t.Run(name, func(t *testing.T) {
			t.Parallel()
			d := laid(t, 64)
			v := mount(t, d)
			layEnds(t, v, l)
			put(t, v, "o", text(1, 700))
			sync(t, v)
			wasFiles := tellFiles(content(t, v))
			want := told(t, d) // what others did since may be there as well
			after := d.Copy()
			v = mount(t, after)
			put(t, v, "p", "unsynced")
			x := open(t, v)
			wantOthers := tell(t, v, x)
			nextFiles := tellFiles(content(t, v))
			stopOpens(t, d, l, map[string]string{wasFiles: want, nextFiles: wantOthers})
		})
	}
}

// stopOpens lets Opens of a device stop. What is to be told then stands by what the files are.
func stopOpens(t *testing.T, d *blockdev.Device, l []end, want map[string]string) {
	t.Helper()
	seen, left := known{}, map[string]int{}
	for k := 0; ; k++ {
		c := d.Copy()
		v := mount(t, c)
		put(t, v, "p", "unsynced")
		c.Fuse(k)
		x, e := Open(v)
		c.Fuse(-1)
		for _, y := range crashes(c) {
			files := tellFiles(content(t, mount(t, y.Copy())))
			if want[files] == "" {
				t.Fatalf("stopped at %d: %s", k, brief(files))
			}
			left[files]++
			stays(t, seen, y, want[files], 1)
		}
		if e == api.OK {
			break
		}
		if x != nil || e != api.ErrDown || !c.Down() {
			t.Fatalf("stopped at %d: %v", k, e)
		}
		if _, e := Open(v); e != api.ErrDown {
			t.Fatalf("Open when it is down: %v", e)
		}
	}
	torn := slices.ContainsFunc(l, func(x end) bool { return x.rest != "" })
	if wantLeft := map[bool]int{false: 1, true: 2}[torn]; len(left) != wantLeft {
		t.Errorf("%d kinds of files are left, not %d", len(left), wantLeft)
	}
}

// P9.4: Appends one behind the other, of which each stops ahead of each operation; what is left then is what the next one begins with.
func TestOneBehindTheOther(t *testing.T) {
	w := begin(t, 64)
	w.append(frames(100)...)
	stopAll(t, w, [][]api.Frame{frames(50, 60), frames(600), frames(7)})
}

func stopAll(t *testing.T, begun *world, all [][]api.Frame) {
	t.Helper()
	if len(all) == 0 {
		return
	}
	seen := known{}
	for k := 0; ; k++ {
		w := begun.again()
		next := w.next(all[0])
		w.d.Fuse(k)
		e := w.l.Append(all[0])
		w.d.Fuse(-1)
		for _, x := range crashes(w.d) {
			if seen.has(t, x) {
				continue
			}
			c := *begun
			c.d = x
			if told(t, x) == next {
				c.done(all[0], api.OK)
			}
			stays(t, seen, x, c.want(), 0)
			stopAll(t, &c, all[1:])
		}
		if e == api.OK {
			return
		}
	}
}

// P9.4, P9.5: many runs of Appends, drawn, with stops and crashes drawn, with others that do what they do.
func TestStopsDrawn(t *testing.T) {
	for seed := range 60 {
		t.Run(fmt.Sprint(seed), func(t *testing.T) {
			t.Parallel()
			r := rand.New(rand.NewSource(int64(seed)))
			w := begin(t, []int{64, 64, 128, 512}[r.Intn(4)])
			for range 80 {
				drawnOthers(r, w)
				drawnStop(t, r, w, drawnFrames(r))
				w.is()
			}
		})
	}
}

// drawnStop appends frames, which may stop, and opens all anew then.
func drawnStop(t *testing.T, r *rand.Rand, w *world, f []api.Frame) {
	t.Helper()
	want, was := w.answer(f), w.was()
	if r.Intn(4) == 0 {
		w.d.Fuse(r.Intn(60))
	}
	got := w.l.Append(f)
	w.d.Fuse(-1)
	if got != api.ErrDown {
		if got != want {
			t.Fatalf("Append: %d, not %d", got, want)
		}
		w.done(f, got)
		if r.Intn(8) == 0 {
			reopenDrawn(t, r, w)
		}
		return
	}
	if !w.d.Down() {
		t.Fatal("Append: it is down, and the device is not")
	}
	w.stands()
	others := w.others
	reopenDrawn(t, r, w)
	if now := tell(t, w.v, w.l); now != was {
		if want != api.OK {
			t.Fatalf("behind a crash: %s", brief(now))
		}
		w.others = others
		w.done(f, api.OK) // that it is so asks the caller
	}
}

// reopenDrawn opens all anew behind a crash, and behind others on the way.
func reopenDrawn(t *testing.T, r *rand.Rand, w *world) {
	t.Helper()
	for {
		picks := make([]int, len(w.d.Pending()))
		for i := range picks {
			picks[i] = r.Intn(1000)
		}
		w.d.Crash(picks)
		w.d.Fuse(r.Intn(60) - 10)
		v, l, e := openAll(w.d)
		if e == api.OK {
			w.d.Fuse(-1)
			w.v, w.l, w.others = v, l, maps.Clone(w.last)
			return
		}
		if l != nil || e != api.ErrDown {
			t.Fatalf("opened: %v", e)
		}
	}
}
