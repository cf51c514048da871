package fsdir

import (
	"fmt"
	"math/rand"
	"slices"
	"strings"
	"testing"
	"unsafe"

	"cartulary/api"
)

// nothing asks that a file system does nothing, and tells nothing.
func nothing(t *testing.T, v *FS) {
	t.Helper()
	for range 2 {
		for _, name := range []string{"", "a", strings.Repeat("n", 41)} {
			b, e := v.Read(name, -1, -1)
			n, f := v.Size(name)
			if len(b) > 0 || n != 0 {
				t.Errorf("%q: %d bytes of %d", name, len(b), n)
			}
			for i, e := range []api.Errno{e, f, v.Create(name), v.Append(name, nil), v.Append(name, full(40000)), v.Rename(name, name), v.Rename(name, ""), v.Remove(name), v.Sync()} {
				if e != api.ErrArg {
					t.Errorf("call %d of %q: %d", i, name, e)
				}
			}
		}
		if l, n := v.List(), v.Free(); len(l) != 0 || n != 0 {
			t.Errorf("%q, %d free", l, n)
		}
		v.Reset()
	}
}

// R1: without a file system nothing is done, and nothing told; one that was made by hand has no device.
func TestNoFileSystem(t *testing.T) {
	nothing(t, nil)
	nothing(t, &FS{})
}

// R1: a copy that was made by hand is the same file system.
func TestCopyByHand(t *testing.T) {
	r := rand.New(rand.NewSource(8))
	b := pair(t, 100)
	v := b.v
	hand := *v
	for range 1500 {
		b.v = []*FS{v, &hand}[r.Intn(2)]
		if r.Intn(9) == 0 {
			b.sync()
		} else {
			drawnCall(r, b)
		}
		b.is()
	}
	stopped(b.d)
	v.Sync()
	b.d.Crash(nil)
	isDown(t, &hand)
}

// R4: bytes that are handed in are neither changed nor kept, their spare room included.
func TestHandedIn(t *testing.T) {
	b := pair(t, 512)
	b.create("f")
	for _, n := range []int{0, 1, 511, 512, 513, 600, 5000, 20000} {
		want := text(n, n)
		room := append([]byte(want), text(3, 700)...)
		was := slices.Clone(room)
		if e := b.v.Append("f", room[:n]); e != api.OK {
			t.Fatalf("Append: %v", e)
		}
		b.s.append("f", want)
		if !slices.Equal(room, was) {
			t.Errorf("%d bytes: they are changed", n)
		}
		clear(room)
		b.is()
	}
	b.sync()
	b.v = mount(t, b.d)
	b.is()
}

// R4: bytes and names that are answered are the asker's own, their spare room too.
func TestAnswered(t *testing.T) {
	b := pair(t, 512)
	for i, n := range sizes() {
		b.create(fmt.Sprint(n))
		b.append(fmt.Sprint(n), text(i, n))
	}
	for range 2 {
		for _, n := range sizes() {
			for _, k := range []int{0, 1, 512, n} {
				got, _ := b.v.Read(fmt.Sprint(n), 0, k)
				again, _ := b.v.Read(fmt.Sprint(n), 0, k)
				scrawl(got)
				if want, _ := b.s.read(fmt.Sprint(n), 0, k); string(again) != want {
					t.Errorf("%d of %d bytes: two answers are one", k, n)
				}
			}
		}
		b.is()
		l, again := b.v.List(), b.v.List()
		l = l[:cap(l)]
		for i := range l {
			l[i] = "other"
		}
		if slices.Contains(again, "other") {
			t.Error("two lists are one")
		}
		b.is()
		b.sync()
		b.is()
	}
}

// scrawl writes over bytes, and over their spare room.
func scrawl(b []byte) {
	b = b[:cap(b)]
	for i := range b {
		b[i] = '!'
	}
}

// loose is a text whose bytes can be changed.
func loose(s string) (string, []byte) {
	b := []byte(s)
	return unsafe.String(&b[0], len(b)), b
}

// R4: a name that is handed in is not kept.
func TestNamesApart(t *testing.T) {
	v := mount(t, laid(t, 64))
	is := func(want ...string) {
		t.Helper()
		if l := v.List(); !slices.Equal(l, want) {
			t.Errorf("%q, not %q", l, want)
		}
		for _, name := range want {
			if _, e := v.Size(name); e != api.OK {
				t.Errorf("Size(%q): %v", name, e)
			}
		}
	}
	name, b := loose("created")
	v.Create(name)
	scrawl(b)
	is("created")
	name, b = loose("created")
	v.Append(name, full(600))
	scrawl(b)
	is("created")
	name, b = loose("renamed")
	v.Rename("created", name)
	scrawl(b)
	is("renamed")
	name, b = loose("renamed")
	v.Rename(name, name)
	scrawl(b)
	is("renamed")
	v.Sync()
	name, b = loose("renamed")
	v.Append(name, full(600))
	scrawl(b)
	v.Sync()
	is("renamed")
}

// Of what lies on the device no more is in memory than a part: the cache stays small, and blocks that no file has any more leave it.
func TestCache(t *testing.T) {
	b := pair(t, 512)
	held := func() int { return b.v.disk.cache.Len() }
	for i := range 7 {
		b.create(fmt.Sprint(i))
		b.append(fmt.Sprint(i), text(i, 32768))
		b.read("0", 0, most)
		if held() > cached {
			t.Errorf("%d blocks in memory", held())
		}
	}
	for i := range 7 {
		b.remove(fmt.Sprint(i))
	}
	if held() != 0 {
		t.Errorf("%d blocks in memory of no file", held())
	}
	b.create("a")
	b.append("a", text(1, 1000))
	b.reset()
	if held() != 0 {
		t.Errorf("%d blocks in memory of what was undone", held())
	}
}

// costs is how many operations of the device something does.
func (b *both) costs(do func()) int {
	was := b.d.Ops()
	do()
	return b.d.Ops() - was
}

// The device is not used without need: not for what is in memory, nor for what nobody has any more.
func TestOperations(t *testing.T) {
	b := pair(t, 512)
	least := b.costs(b.sync)
	is := func(what string, got, want int) {
		t.Helper()
		if got != want {
			t.Errorf("%s: %d operations, not %d", what, got, want)
		}
	}
	is("blocks that are new", b.costs(func() {
		b.create("a")
		b.append("a", text(1, 6000))
	}), 0)
	is("a Sync of 12 blocks", b.costs(b.sync), least+12)
	is("a Sync of nothing", b.costs(b.sync), least)
	is("a block that is written often", b.costs(func() {
		for range 50 {
			b.append("a", "x")
		}
		b.sync()
	}), least+1)
	is("what is undone", b.costs(func() {
		b.append("a", text(2, 3000))
		b.reset()
		b.create("b")
		b.append("b", text(2, 3000))
		b.remove("b")
		b.sync()
	}), least)
	b.v = mount(t, b.d)
	is("what is read first", b.costs(func() { b.read("a", 0, most) }), 12)
	is("what is read again", b.costs(func() { b.read("a", 0, most) }), 0)
	for i := range 4 {
		b.create(fmt.Sprint(i))
		b.append(fmt.Sprint(i), text(i, 20000))
	}
	b.sync()
	b.is()
	if l := b.d.Pending(); len(l) > 0 {
		t.Errorf("%v are written by being read", l)
	}
}
