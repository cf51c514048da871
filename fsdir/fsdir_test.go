package fsdir

import (
	"bytes"
	"fmt"
	"slices"
	"strings"
	"testing"

	"cartulary/api"
	"cartulary/blockdev"
	"cartulary/journal"
)

// The errors' numbers that the chapter gives.
func TestErrors(t *testing.T) {
	for e, n := range map[api.Errno]int{api.ErrArg: 1, api.ErrDown: 2, api.ErrFsNone: 80, api.ErrFsThere: 81, api.ErrFsName: 82, api.ErrFsMany: 83, api.ErrFsLong: 84, api.ErrFsSpace: 85, api.ErrFsForm: 86} {
		if int(e) != n {
			t.Errorf("%d, not %d", int(e), n)
		}
	}
}

// answers asks whether calls answered just these errors.
func answers(t *testing.T, got []api.Errno, want ...api.Errno) {
	t.Helper()
	if !slices.Equal(got, want) {
		t.Errorf("%v, not %v", got, want)
	}
}

// The examples of the chapter.
func TestExamples(t *testing.T) {
	d := made(t, 64)
	if v, e := Mount(d); v != nil || e != api.ErrFsForm {
		t.Errorf("Mount of a new device: %v", e)
	}
	if e := Format(d); e != api.OK {
		t.Fatalf("Format: %v", e)
	}
	v := mount(t, d)
	free := func(want int) {
		t.Helper()
		if n := v.Free(); n != want {
			t.Errorf("%d free, not %d", n, want)
		}
	}
	free(28)
	answers(t, []api.Errno{v.Create("a"), v.Append("a", full(513))}, api.OK, api.OK)
	free(26)
	answers(t, []api.Errno{v.Sync(), v.Remove("a")}, api.OK, api.OK)
	free(26)
	answers(t, []api.Errno{v.Sync()}, api.OK)
	free(28)
	answers(t, []api.Errno{v.Create("b"), v.Append("b", full(600)), v.Remove("b")}, api.OK, api.OK, api.OK)
	free(28)
	answers(t, []api.Errno{v.Append("b", full(1)), v.Create(strings.Repeat("n", 41)), v.Rename("x", "y")}, api.ErrFsNone, api.ErrFsName, api.ErrFsNone)
	answers(t, []api.Errno{v.Create("a"), v.Append("a", full(14336)), v.Append("a", full(1))}, api.OK, api.OK, api.ErrFsSpace)
	v.Reset()
	if l := v.List(); len(l) != 0 {
		t.Errorf("%q", l)
	}
}

// P8.1: a file system lies on the whole device behind Format, whatever was there, and is durable.
func TestFormat(t *testing.T) {
	for _, blocks := range []int{64, 65, 100, 511, 512} {
		b := pair(t, blocks)
		b.is()
		b.create("a")
		b.append("a", text(1, 700))
		b.sync()
		b.create("b")
		if len(b.d.Pending()) > 0 {
			t.Errorf("pending %v", b.d.Pending())
		}
		c := b.d.Copy()
		c.Crash([]int{1, 1, 1})
		again := mount(t, c)
		if got := tell(t, again); got != (&state{blocks - 36, b.s.last, b.s.last}).tell() {
			t.Errorf("mounted anew: %s", brief(got))
		}
		if e := Format(b.d); e != api.OK {
			t.Fatalf("Format: %v", e)
		}
		for _, x := range crashes(b.d) {
			v := mount(t, x)
			if len(v.List()) != 0 || v.Free() != blocks-36 {
				t.Errorf("%d blocks: %q, %d free", blocks, v.List(), v.Free())
			}
		}
	}
}

// P8.1: where none lies none is mounted: on a device of noughts, on a log of noughts, on one of other things; and nothing is changed by that.
func TestMountOfNone(t *testing.T) {
	log := func(data string) *blockdev.Device {
		d := made(t, 64)
		journal.Format(d)
		l, e := journal.Open(d)
		if e != api.OK {
			t.Fatalf("Open: %v", e)
		}
		b := make([]byte, 512)
		copy(b, data)
		l.Commit([]api.Write{{Block: 0, Data: b}})
		return d
	}
	for i, d := range []*blockdev.Device{made(t, 64), made(t, 512), log(""), log("x"), log("files"), log("file\x00\x01\x00"), log("files\x01\x01"), log(strings.Repeat("\xff", 512)), {}} {
		for range 2 {
			if v, e := Mount(d); v != nil || e != api.ErrFsForm {
				t.Errorf("device %d: %v", i, e)
			}
		}
	}
	if v := mount(t, log("files\x01")); len(v.List()) != 0 {
		t.Error("the list of no files is not what these tests take it for")
	}
}

// P8.1, R1: without a device nothing is laid, and nothing mounted; nor is it on one that was made by hand.
func TestNoDevice(t *testing.T) {
	if e := Format(nil); e != api.ErrArg {
		t.Errorf("Format: %v", e)
	}
	if v, e := Mount(nil); v != nil || e != api.ErrArg {
		t.Errorf("Mount: %v", e)
	}
	if e := Format(&blockdev.Device{}); e != api.ErrArg {
		t.Errorf("Format: %v", e)
	}
}

// P8.1: on a device that is down there is nothing to be laid or mounted.
func TestDeviceDown(t *testing.T) {
	for _, d := range []*blockdev.Device{made(t, 64), laid(t, 64)} {
		_, was := Mount(d)
		stopped(d)
		if e := Format(d); e != api.ErrDown {
			t.Errorf("Format: %v", e)
		}
		if v, e := Mount(d); v != nil || e != api.ErrDown {
			t.Errorf("Mount: %v", e)
		}
		d.Crash(nil)
		if _, e := Mount(d); e != was {
			t.Errorf("Mount: %v, not %v", e, was)
		}
	}
}

// P8.2: how many blocks a file of so many bytes has, put at once and piece by piece.
func TestBlocksOfAFile(t *testing.T) {
	for _, n := range sizes() {
		for _, piece := range []int{1, 7, 511, 512, 513, 32768} {
			if piece == 1 && n > 2000 {
				continue
			}
			b := pair(t, 512)
			b.create("f")
			for data := text(n, n); data != ""; {
				k := min(piece, len(data))
				b.append("f", data[:k])
				data = data[k:]
			}
			b.free(476 - (n+511)/512)
			b.is()
			b.sync()
			b.free(476 - (n+511)/512)
			b.v = mount(t, b.d)
			b.is()
		}
	}
}

// P8.2: what is free ahead of and behind each Sync and Reset, where files were there at the last Sync and where they were created since.
func TestFree(t *testing.T) {
	b := pair(t, 64)
	b.create("old")
	b.append("old", text(1, 1500)) // 3
	b.free(25)
	b.sync()
	b.free(25)
	b.append("old", text(2, 36)) // up to the end of its blocks
	b.free(25)
	b.append("old", text(3, 513)) // 2 since
	b.create("new")
	b.append("new", text(4, 1)) // 1 since
	b.free(22)
	b.remove("new")
	b.free(23)
	b.remove("old")
	b.free(25)
	b.reset()
	b.free(25)
	b.is()
	b.append("old", text(5, 600)) // 2 since
	b.create("new")
	b.append("new", text(6, 512))
	b.free(22)
	b.rename("new", "old")
	b.free(24)
	b.is()
	b.sync()
	b.free(27)
	b.is()
	b.append("old", text(7, 1))
	b.remove("old")
	b.create("old")
	b.append("old", text(8, 512*26))
	b.free(1)
	b.remove("old")
	b.free(27)
	b.sync()
	b.free(28)
	b.reset()
	b.free(28)
	b.is()
}

// P8.2: behind a Reset what was removed has its blocks, and what was created since has none.
func TestFreeBehindReset(t *testing.T) {
	b := pair(t, 64)
	b.create("a")
	b.append("a", text(1, 5000))
	b.create("b")
	b.append("b", text(2, 5000))
	b.sync()
	b.free(8)
	for range 3 {
		b.remove("a")
		b.create("c")
		b.append("c", text(3, 512*8))
		b.free(0)
		b.same("Append", b.append("b", text(4, 512)), api.ErrFsSpace)
		b.is()
		b.reset()
		b.free(8)
		b.is()
	}
	b.v = mount(t, b.d)
	b.free(8)
	b.is()
}

// P8.3: which names may be: those of 1 to 40 bytes, whatever these are.
func TestNames(t *testing.T) {
	b := pair(t, 64)
	for _, name := range []string{"a", "\x00", "\x00\x00", "\xff", "\xff\xfe", " ", "/", "..", "\n", "a\x00b", "ä", "\xc3", strings.Repeat("n", 39), strings.Repeat("n", 40), strings.Repeat("\x00", 40), strings.Repeat("\xff", 40)} {
		b.same(name, b.create(name), api.OK)
		b.append(name, name+"'s")
		b.same(name, b.create(name), api.ErrFsThere)
	}
	for _, name := range []string{"", strings.Repeat("n", 41), strings.Repeat("\x00", 41), strings.Repeat("n", 256), strings.Repeat("n", 296), strings.Repeat("n", 100000)} {
		b.same(name, b.create(name), api.ErrFsName)
		b.same(name, b.rename("a", name), api.ErrFsName)
		b.same(name, b.rename(name, "a"), api.ErrFsNone)
		b.same(name, b.rename(name, name), api.ErrFsNone)
		b.same(name, b.append(name, ""), api.ErrFsNone)
		b.same(name, b.read(name, 0, 0), api.ErrFsNone)
		b.same(name, b.size(name), api.ErrFsNone)
		b.same(name, b.remove(name), api.ErrFsNone)
	}
	b.is()
	b.sync()
	b.v = mount(t, b.d)
	b.is()
}

// P8.3: there are at most 64 files.
func TestManyFiles(t *testing.T) {
	b := pair(t, 64)
	name := func(i int) string { return fmt.Sprintf("%040d", i) }
	for i := range 63 {
		b.create(name(i))
	}
	b.sync()
	b.is()
	b.same("the 64th", b.create(name(63)), api.OK)
	b.same("the 65th", b.create(name(64)), api.ErrFsMany)
	b.same("one that is there", b.create(name(5)), api.ErrFsThere)
	b.same("none's name", b.create(""), api.ErrFsName)
	b.same("a renamed one", b.rename(name(5), name(64)), api.OK)
	b.same("the 65th", b.create(name(5)), api.ErrFsMany)
	b.is()
	b.sync()
	b.v = mount(t, b.d)
	b.is()
	b.same("the 65th", b.create("a"), api.ErrFsMany)
	b.same("a renamed one", b.rename(name(0), name(1)), api.OK)
	b.same("the 64th", b.create("a"), api.OK)
	b.same("the 65th", b.create("b"), api.ErrFsMany)
	b.remove("a")
	b.same("the 64th", b.create("b"), api.OK)
	b.is()
	b.reset()
	b.is()
	b.same("the 65th", b.create("b"), api.ErrFsMany)
}

// P8.3: a file has at most 32768 bytes.
func TestLongFiles(t *testing.T) {
	for _, n := range sizes() {
		b := pair(t, 512)
		b.create("f")
		b.same("32769 bytes", b.append("f", text(1, 32769)), api.ErrFsLong)
		b.same("many bytes", b.append("f", text(1, 1<<20)), api.ErrFsLong)
		b.append("f", text(1, n))
		b.same("one more", b.append("f", text(2, 32769-n)), api.ErrFsLong)
		b.is()
		b.same("just all", b.append("f", text(3, 32768-n)), api.OK)
		b.same("nothing more", b.append("f", ""), api.OK)
		b.same("one more", b.append("f", "x"), api.ErrFsLong)
		b.is()
		b.sync()
		b.v = mount(t, b.d)
		b.same("one more", b.append("f", "x"), api.ErrFsLong)
		b.is()
	}
}

// P8.3: an Append that needs just what is free, and one block more.
func TestSpace(t *testing.T) {
	b := pair(t, 64)
	b.create("a")
	b.create("b")
	b.append("a", text(1, 600))
	b.append("b", text(2, 512))
	b.free(25)
	for range 2 {
		b.same("one block more", b.append("a", text(3, 424+25*512+1)), api.ErrFsSpace)
		b.same("one block more", b.append("b", text(3, 25*512+1)), api.ErrFsSpace)
		b.is()
		b.same("just what is free", b.append("b", text(3, 25*512)), api.OK)
		b.free(0)
		b.same("within its blocks", b.append("a", text(4, 424)), api.OK)
		b.same("nothing", b.append("b", ""), api.OK)
		b.same("one block more", b.append("a", "x"), api.ErrFsSpace)
		b.same("one block more", b.append("b", "x"), api.ErrFsSpace)
		b.same("too long comes first", b.append("b", text(5, 32768)), api.ErrFsLong)
		b.same("too long comes first", b.append("b", text(5, 32768-26*512+1)), api.ErrFsLong)
		b.same("an empty one", b.create("c"), api.OK)
		b.same("a block of it", b.append("c", "x"), api.ErrFsSpace)
		b.is()
		b.reset()
		b.is()
		b.create("a")
		b.create("b")
		b.append("a", text(1, 600))
		b.append("b", text(2, 512))
		b.sync()
	}
}

// P8.3: on a device of 512 blocks files have 476.
func TestGreatSpace(t *testing.T) {
	b := pair(t, 512)
	b.free(476)
	for i := range 7 {
		b.create(string(rune('a' + i)))
		b.append(string(rune('a'+i)), text(i, 32768))
	}
	b.create("h")
	b.free(28)
	b.same("29 blocks", b.append("h", text(9, 28*512+1)), api.ErrFsSpace)
	b.same("28 blocks", b.append("h", text(9, 28*512)), api.OK)
	b.free(0)
	b.is()
	b.sync()
	b.v = mount(t, b.d)
	b.is()
	b.remove("c")
	b.same("one block more", b.append("h", "x"), api.ErrFsSpace)
	b.sync()
	b.same("one block more", b.append("h", "x"), api.OK)
	b.is()
}

// P8.4: Read and Size, at all edges.
func TestRead(t *testing.T) {
	b := pair(t, 512)
	for _, n := range sizes() {
		name := fmt.Sprint(n)
		b.create(name)
		b.append(name, text(n, n))
		for range 2 {
			for _, at := range []int{least, -1, 0, 1, 511, 512, 513, n / 2, n - 513, n - 512, n - 1, n, n + 1, 32768, 32769, most} {
				for _, k := range []int{least, -1, 0, 1, 2, 511, 512, 513, 1024, n - at, n - at + 1, n, n + 1, 32768, most - at, most} {
					b.read(name, at, k)
				}
			}
			b.size(name)
			b.sync()
		}
	}
	b.same("none", b.read("none", 0, 1), api.ErrFsNone)
	b.same("none", b.read("none", -1, -1), api.ErrFsNone)
	b.same("none", b.size("none"), api.ErrFsNone)
	for _, n := range sizes() { // none of them was changed by being read
		b.read(fmt.Sprint(n), 0, most)
	}
	b.is()
}

// P8.4, P8.8: Rename to its own name, to one that is there, to one that is not, to one that may not be.
func TestRename(t *testing.T) {
	b := pair(t, 64)
	long := strings.Repeat("l", 40)
	for i, name := range []string{"a", "b", long} {
		b.create(name)
		b.append(name, text(i, 400+i*300))
	}
	for range 2 {
		b.same("its own name", b.rename("a", "a"), api.OK)
		b.same("its own name", b.rename(long, long), api.OK)
		b.is()
		b.same("none", b.rename("", ""), api.ErrFsNone)
		b.same("none", b.rename("x", "x"), api.ErrFsNone)
		b.same("none", b.rename("x", ""), api.ErrFsNone)
		b.same("none", b.rename("x", "a"), api.ErrFsNone)
		b.same("no name", b.rename("a", ""), api.ErrFsName)
		b.same("no name", b.rename("a", long+"l"), api.ErrFsName)
		b.is()
		b.sync()
	}
	b.same("one that is not there", b.rename("a", "c"), api.OK)
	b.is()
	b.same("one that was", b.rename("b", "a"), api.OK)
	b.is()
	b.same("one that is there", b.rename("a", long), api.OK)
	b.same("none any more", b.rename("a", "d"), api.ErrFsNone)
	b.is()
	b.append(long, text(5, 1000))
	b.is()
	c := b.s.copy()
	b.reset()
	b.is()
	b.s = c
	b.v.Rename("a", "c")
	b.v.Rename("b", long)
	b.v.Append(long, []byte(text(5, 1000)))
	b.is()
	b.sync()
	b.v = mount(t, b.d)
	b.is()
}

// P8.4: Remove, and files that are not there.
func TestRemove(t *testing.T) {
	b := pair(t, 64)
	none := func(name string) {
		t.Helper()
		for i, e := range []api.Errno{b.remove(name), b.append(name, "x"), b.append(name, text(1, 40000)), b.read(name, 0, 1), b.size(name), b.rename(name, "y")} {
			b.same(fmt.Sprintf("call %d", i), e, api.ErrFsNone)
		}
	}
	none("a")
	b.create("a")
	b.append("a", text(1, 600))
	b.same("Remove", b.remove("a"), api.OK)
	none("a")
	b.create("a")
	b.is()
	b.append("a", text(2, 10))
	b.sync()
	b.same("Remove", b.remove("a"), api.OK)
	none("a")
	b.is()
	b.sync()
	none("a")
	b.v = mount(t, b.d)
	none("a")
	b.is()
}

// P8.4: List's order is that of the names' bytes.
func TestList(t *testing.T) {
	v := mount(t, laid(t, 64))
	want := []string{"\x00", "\x00\x00", "\x00\xff", " ", "A", "B", "Z", "a", "a\x00", "aa", "ab", "b", "ba", "é", "\xff", "\xff\x00"}
	order := slices.Clone(want)
	for i := range order { // neither rising nor falling
		j := i * 7 % len(order)
		order[i], order[j] = order[j], order[i]
	}
	for _, name := range order {
		v.Create(name)
	}
	for range 20 {
		if l := v.List(); !slices.Equal(l, want) {
			t.Fatalf("%q", l)
		}
	}
	v.Rename("\x00", "\xff\xff")
	v.Remove("b")
	want = append(want[1:], "\xff\xff")
	want = slices.DeleteFunc(want, func(s string) bool { return s == "b" })
	if l := v.List(); !slices.Equal(l, want) {
		t.Errorf("%q", l)
	}
}

// P8.5: Reset brings back what was at the last Sync, whatever was done since.
func TestReset(t *testing.T) {
	b := pair(t, 64)
	b.create("a")
	b.reset()
	b.is()
	for i, name := range []string{"a", "b", "c", "d"} {
		b.create(name)
		b.append(name, text(i, 300+i*400))
	}
	b.sync()
	for i := range 4 {
		b.append("a", text(10+i, 100)) // within its block
		b.append("b", text(20+i, 600)) // beyond it
		b.remove("c")
		b.create("c")
		b.append("c", text(30+i, 900))
		b.rename("d", "e")
		b.append("e", text(40+i, 50))
		b.rename("a", "b")
		b.is()
		b.reset()
		b.is()
		b.append("d", text(50+i, 1))
		b.is()
		b.reset()
		b.is()
	}
	b.v = mount(t, b.d)
	b.is()
}

// P8.5: behind a Reset what was undone is not there even where it had been written out ahead of it.
func TestResetOfMuch(t *testing.T) {
	b := pair(t, 512)
	for i := range 6 {
		b.create(fmt.Sprint(i))
		b.append(fmt.Sprint(i), text(i, 100+i*500))
	}
	b.sync()
	for i := range 3 {
		for j := range 6 {
			b.append(fmt.Sprint(j), text(10*i+j, 20000))
		}
		b.remove("3")
		b.is()
		b.reset()
		b.is()
		b.append("1", text(i, 10))
		b.append("5", text(i, 3000))
		b.is()
		b.reset()
	}
	b.is()
	b.append("2", text(9, 10))
	b.sync()
	b.v = mount(t, b.d)
	b.is()
}

// P8.5: what was done is durable behind a Sync, and nothing ahead of it, whatever a crash keeps.
func TestSync(t *testing.T) {
	b := pair(t, 512)
	for i := range 5 {
		name := fmt.Sprint(i)
		b.create(name)
		b.append(name, text(i, i*9000))
		if i > 1 {
			b.rename(fmt.Sprint(i-1), fmt.Sprint(i-2))
		}
		for _, x := range crashes(b.d) {
			if got := tell(t, mount(t, x)); got != (&state{476, b.s.last, b.s.last}).tell() {
				t.Errorf("ahead of Sync %d: %s", i, brief(got))
			}
		}
		b.sync()
		for _, x := range crashes(b.d) {
			if got := tell(t, mount(t, x)); got != b.s.tell() {
				t.Errorf("behind Sync %d: %s", i, brief(got))
			}
		}
	}
	for range 2 { // nothing was done between these
		b.sync()
		b.is()
	}
}

// P8.8: what is read is what was put behind, piece by piece, through many files that grow by turns, so that their blocks lie among one another.
func TestPieces(t *testing.T) {
	b := pair(t, 512)
	for i := range 64 {
		b.create(fmt.Sprintf("%040d", i))
	}
	for k := range 7 {
		for i := range 64 {
			b.append(fmt.Sprintf("%040d", i), text(k, 512))
		}
		if k%3 == 1 {
			b.sync()
		}
	}
	b.free(28)
	b.is()
	b.sync()
	b.v = mount(t, b.d)
	b.is()
}

// P8.6: the longest list of files that there can be is made durable: 64 names of 40 bytes, no two neighbouring blocks of one file.
func TestLongestList(t *testing.T) {
	b := pair(t, 512)
	name := func(i int) string { return strings.Repeat("n", 38) + fmt.Sprintf("%02d", i) }
	for i := range 64 {
		b.create(name(i))
	}
	for n := range 476 {
		b.append(name(n%8), text(n, 512-n%2)) // by turns, so that no file's blocks follow one another
		if n%2 == 1 {
			b.append(name(n%8), "y")
		}
	}
	b.is()
	b.sync()
	b.v = mount(t, b.d)
	b.is()
	if n := len(lay(b.v.files)); n > api.FsExtra*api.BlockSize || n < 8*api.BlockSize {
		t.Errorf("a list of %d bytes", n)
	}
}

// R3: a call that is refused changes nothing, neither what is told nor what the device has.
func TestRefused(t *testing.T) {
	b := pair(t, 64)
	b.create("a")
	b.append("a", text(1, 700))
	b.create("b")
	b.append("b", text(2, 12000))
	b.sync()
	b.append("a", text(3, 800))
	b.remove("b")
	b.create("c")
	was, ops := b.d.Copy(), b.d.Ops()
	for i, e := range []api.Errno{
		b.create(""), b.create("a"), b.create(strings.Repeat("n", 41)),
		b.append("b", "x"), b.append("a", text(4, 32768)), b.append("c", text(4, 512*3+1)), b.append("a", text(4, 2000)),
		b.read("b", 0, 1), b.read("a", -1, 0), b.read("a", 1501, 0), b.read("a", 0, -1),
		b.size("b"), b.rename("b", "d"), b.rename("a", ""), b.remove("b"),
	} {
		if e == api.OK {
			t.Errorf("call %d goes well", i)
		}
	}
	if b.d.Ops() != ops || !slices.Equal(b.d.Pending(), was.Pending()) {
		t.Errorf("%d operations in calls that are refused", b.d.Ops()-ops)
	}
	b.is()
	b.sync()
	b.v = mount(t, b.d)
	b.is()
}

// The bytes of a block are handed from call to call as they are, of all 256 kinds.
func TestAllBytes(t *testing.T) {
	b := pair(t, 64)
	all := make([]byte, 256)
	for i := range all {
		all[i] = byte(i)
	}
	b.create("f")
	b.append("f", string(bytes.Repeat(all, 9)))
	b.is()
	b.sync()
	b.v = mount(t, b.d)
	b.is()
}
