package fsdir

import (
	"crypto/sha256"
	"fmt"
	"math/rand"
	"testing"

	"cartulary/api"
	"cartulary/blockdev"
)

// scene is what was done ahead of a Sync, and since.
type scene struct {
	name   string
	blocks int
	before func(*both)
	since  func(*both)
}

func scenes() []scene {
	return []scene{
		{"nothing", 64, func(b *both) {}, func(b *both) {}},
		{"the first file", 64, func(b *both) {}, func(b *both) {
			b.create("a")
			b.append("a", text(1, 600))
		}},
		{"within a block", 64, func(b *both) {
			b.create("a")
			b.append("a", text(1, 10))
		}, func(b *both) {
			b.append("a", text(2, 100))
			b.create("b")
		}},
		{"over what is removed", 64, func(b *both) {
			b.create("a")
			b.append("a", text(1, 1200))
			b.create("b")
			b.append("b", text(2, 512*20))
		}, func(b *both) {
			b.remove("a")
			b.rename("b", "a")
			b.create("b")
			b.append("b", text(3, 512*5))
			b.remove("a")
			b.create("a")
		}},
		{"a name over another", 100, func(b *both) {
			b.create("new")
			b.append("new", text(1, 700))
			b.create("old")
			b.append("old", text(2, 800))
		}, func(b *both) {
			b.append("new", text(3, 700))
			b.rename("new", "old")
		}},
		{"more than the cache has", 140, func(b *both) {
			for i := range 3 {
				b.create(fmt.Sprint(i))
				b.append(fmt.Sprint(i), text(i, 6000+i))
			}
		}, func(b *both) {
			for i := range 3 {
				b.append(fmt.Sprint(i), text(9*i, 8000))
			}
			b.remove("2")
			b.create("4")
			b.append("4", text(8, 5000))
		}},
		{"a long list", 64, func(b *both) {
			for i := range 60 {
				b.create(fmt.Sprintf("%040d", i))
			}
		}, func(b *both) {
			for i := range 30 {
				b.rename(fmt.Sprintf("%040d", i), fmt.Sprintf("%039d", i))
			}
			b.append(fmt.Sprintf("%040d", 50), text(1, 4000))
		}},
	}
}

// begun is a file system of a scene, on which what was done ahead is synced.
func (c scene) begun(t testing.TB) *both {
	t.Helper()
	b := pair(t, c.blocks)
	c.before(b)
	b.sync()
	return b
}

// again is the same on a copy of its device.
func (b *both) again() *both {
	b.t.Helper()
	d := b.d.Copy()
	return &both{b.t, d, mount(b.t, d), b.s.copy()}
}

// was and next are what files were at the last Sync, and what one now makes them.
func (b *both) was() string  { return (&state{b.s.blocks, b.s.last, b.s.last}).tell() }
func (b *both) next() string { s := b.s.copy(); s.sync(); return s.tell() }

// told is what a file system tells that is mounted on a copy of a device.
func told(t testing.TB, d *blockdev.Device) string {
	t.Helper()
	c := d.Copy()
	c.Fuse(-1)
	return tell(t, mount(t, c))
}

// known are devices with nothing pending, by what they are: those that stand alike go on alike.
type known map[[32]byte]int

// has tells whether a device was there, and adds it. What else is to be asked of it is told too.
func (k known) has(t testing.TB, d *blockdev.Device, asked ...any) bool {
	t.Helper()
	if len(d.Pending()) > 0 {
		t.Fatalf("pending %v", d.Pending())
	}
	h := sha256.New()
	fmt.Fprintf(h, "%q", asked)
	c := d.Copy()
	for n := range c.Blocks() {
		b, e := c.Read(n)
		if e != api.OK {
			t.Fatalf("Read(%d): %v", n, e)
		}
		h.Write(b)
	}
	key := [32]byte(h.Sum(nil))
	k[key]++
	return k[key] > 1
}

// stays asks whether what is told behind a crash stays so: when it is mounted again, through crashes, and through Mounts that stop, so many ones behind one another.
func stays(t testing.TB, seen known, d *blockdev.Device, want string, mounts int) {
	t.Helper()
	if seen.has(t, d, want, mounts) {
		return
	}
	c := d.Copy()
	for range 2 {
		if got := tell(t, mount(t, c)); got != want {
			t.Fatalf("%s\ndoes not stay, but is\n%s", brief(want), brief(got))
		}
		c.Crash([]int{1, 1, 1})
	}
	if mounts == 0 {
		return
	}
	for k := 0; ; k++ {
		c := d.Copy()
		c.Fuse(k)
		v, e := Mount(c)
		c.Fuse(-1)
		for _, y := range crashes(c) {
			stays(t, seen, y, want, mounts-1)
		}
		if e == api.OK {
			return
		}
		if v != nil || e != api.ErrDown {
			t.Fatalf("a Mount that stops at %d: %v", k, e)
		}
	}
}

// stopSync lets a Sync stop ahead of each operation of the device, with each crash behind it.
func stopSync(t testing.TB, begun *both, since func(*both), mounts int) map[bool]int {
	t.Helper()
	seen, left := known{}, map[bool]int{}
	for k := 0; ; k++ {
		b := begun.again()
		since(b)
		was, next := b.was(), b.next()
		b.d.Fuse(k)
		e := b.v.Sync()
		b.d.Fuse(-1)
		for _, x := range crashes(b.d) {
			if seen.has(t, x, e == api.OK) {
				continue
			}
			got := told(t, x)
			if got != next && (got != was || e == api.OK) {
				t.Fatalf("a Sync, stopped at %d: %s", k, brief(got))
			}
			left[got == next]++
			stays(t, seen, x, got, mounts)
		}
		if e == api.OK {
			return left
		}
		if e != api.ErrDown || !b.d.Down() {
			t.Fatalf("a Sync, stopped at %d: %v", k, e)
		}
	}
}

// P8.6: Syncs that stop at each operation, with each crash, and behind it Mounts that stop at each operation, with each crash, again and again.
func TestSyncsThatStop(t *testing.T) {
	for _, c := range scenes() {
		t.Run(c.name, func(t *testing.T) {
			t.Parallel()
			left := stopSync(t, c.begun(t), c.since, 2)
			if c.name != "nothing" && (left[true] == 0 || left[false] == 0) {
				t.Errorf("all and none: one of these is never left: %v", left)
			}
		})
	}
}

// P8.6: calls that stop ahead of a Sync, and crashes between calls, leave what was at the last one.
func TestCallsThatStop(t *testing.T) {
	for _, c := range scenes() {
		t.Run(c.name, func(t *testing.T) {
			t.Parallel()
			begun := c.begun(t)
			was, seen := begun.was(), known{}
			for k := range 60 {
				b := begun.again()
				b.d.Fuse(k)
				func() { // what since does ends at the first call that stops
					defer func() { recover() }()
					b.t = ender{t}
					c.since(b)
				}()
				b.d.Fuse(-1)
				for _, x := range crashes(b.d) {
					if !seen.has(t, x) {
						stays(t, seen, x, was, 1)
					}
				}
			}
		})
	}
}

// ender is a test that gives up where a call does not answer as it is to; that it must.
type ender struct{ testing.TB }

func (e ender) Fatalf(string, ...any) { panic("it stopped") }

// P8.6: what a crash has thrown away never comes back, whatever is done behind it, and wherever that stops.
func TestThrownAway(t *testing.T) {
	b := pair(t, 64)
	b.create("a")
	b.append("a", text(1, 100))
	b.create("b")
	b.append("b", text(2, 600))
	b.sync()
	stopAll(t, b, []func(*both){
		func(b *both) { b.append("a", text(3, 50)); b.append("b", text(4, 600)) },
		func(b *both) { b.append("a", text(5, 30)); b.rename("b", "a"); b.create("b") },
		func(b *both) { b.append("a", text(6, 700)); b.append("b", text(7, 700)) },
	})
}

// stopAll syncs what is done, one thing behind the other, and each Sync stops; what is left then is what the next one begins with.
func stopAll(t *testing.T, begun *both, all []func(*both)) {
	t.Helper()
	if len(all) == 0 {
		return
	}
	seen := known{}
	for k := 0; ; k++ {
		b := begun.again()
		all[0](b)
		next := b.next()
		b.d.Fuse(k)
		e := b.v.Sync()
		b.d.Fuse(-1)
		for _, x := range crashes(b.d) {
			if seen.has(t, x) {
				continue
			}
			s := b.s.copy()
			if told(t, x) == next {
				s.sync()
			} else {
				s.reset()
			}
			stays(t, seen, x, s.tell(), 0)
			stopAll(t, &both{b.t, x, nil, s}, all[1:])
		}
		if e == api.OK {
			return
		}
	}
}

// A Format that stops leaves the files that were there, all of them, or none, or no file system; and a new one lays one.
func TestFormatsThatStop(t *testing.T) {
	old := pair(t, 64)
	old.create("a")
	old.append("a", text(1, 3000))
	old.sync()
	empty := newState(64).tell()
	for _, d := range []*blockdev.Device{made(t, 64), old.d, laid(t, 64)} {
		left := map[string]int{}
		for k := 0; ; k++ {
			c := d.Copy()
			c.Fuse(k)
			e := Format(c)
			c.Fuse(-1)
			for _, x := range crashes(c) {
				got := "none"
				if v, f := Mount(x); f == api.OK {
					got = tell(t, v)
				} else if f != api.ErrFsForm {
					t.Fatalf("Mount: %v", f)
				}
				left[got]++
				if e == api.OK && got != empty {
					t.Fatalf("%s", brief(got))
				}
				if f := Format(x); f != api.OK || told(t, x) != empty {
					t.Fatalf("Format behind one that stopped: %v", f)
				}
			}
			if e == api.OK {
				break
			}
			if e != api.ErrDown {
				t.Fatalf("Format: %v", e)
			}
		}
		if left["none"] == 0 || left[empty] == 0 {
			t.Errorf("none and a new one: one of these is never left")
		}
		for s := range left {
			if s != "none" && s != empty && s != old.s.tell() {
				t.Errorf("%s", brief(s))
			}
		}
	}
}

// All promises at once: files, told by the chapter's words, to which things are done at random, with stops and crashes at random.
func TestStopsDrawn(t *testing.T) {
	for seed := range 150 {
		r := rand.New(rand.NewSource(int64(seed)))
		blocks := []int{64, 64, 200, 512}[r.Intn(4)]
		b := pair(t, blocks)
		for range 120 {
			if r.Intn(8) == 0 {
				b.d.Fuse(r.Intn(60))
			}
			was, next := b.was(), b.was()
			e := api.OK
			if r.Intn(7) == 0 {
				next = b.next()
				if e = b.v.Sync(); e == api.OK {
					b.s.sync()
				}
			} else {
				e = drawnAgainst(t, r, b)
			}
			if e != api.ErrDown && r.Intn(15) > 0 {
				continue
			}
			if e == api.OK { // a crash between two calls
				was, next = b.was(), b.was()
			}
			if e == api.ErrDown {
				isDown(t, b.v)
			}
			b.v = remount(t, r, b.d)
			got := tell(t, b.v)
			if got != was && got != next {
				t.Fatalf("seed %d: behind a crash\n%s", seed, brief(got))
			}
			if got == next && next != was {
				b.s.sync()
			} else {
				b.s.reset()
			}
			b.is()
		}
	}
}

// drawnAgainst does a call that may stop: its error, if that is that it stopped.
func drawnAgainst(t *testing.T, r *rand.Rand, b *both) api.Errno {
	t.Helper()
	before := b.s.copy()
	e := drawnCall(r, b)
	if e == api.ErrDown {
		b.s = before
	}
	return e
}

// remount mounts a device behind a crash, and behind others while it is mounted.
func remount(t *testing.T, r *rand.Rand, d *blockdev.Device) *FS {
	t.Helper()
	for {
		picks := make([]int, len(d.Pending()))
		for i := range picks {
			picks[i] = r.Intn(1000)
		}
		d.Crash(picks)
		d.Fuse(r.Intn(40) - 8)
		v, e := Mount(d)
		if e == api.OK {
			d.Fuse(-1)
			return v
		}
		if v != nil || e != api.ErrDown {
			t.Fatalf("Mount: %v", e)
		}
	}
}
