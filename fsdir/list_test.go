package fsdir

import (
	"bytes"
	"fmt"
	"math/rand"
	"slices"
	"strings"
	"testing"

	"cartulary/api"
	"cartulary/blockdev"
	"cartulary/inode"
	"cartulary/journal"
)

// node is that of a file of so many bytes in these blocks.
func node(t *testing.T, size int, runs ...api.Run) *inode.Node {
	t.Helper()
	f := inode.New()
	if e := f.Extend(size, runs); e != api.OK {
		t.Fatalf("Extend(%d, %v): %v", size, runs, e)
	}
	return f
}

func run(from, n int) api.Run { return api.Run{From: from, Len: n} }

// listed is a device on which a list of files was laid by a hand.
func listed(t *testing.T, list []byte) *blockdev.Device {
	t.Helper()
	d := made(t, 64)
	journal.Format(d)
	l, e := journal.Open(d)
	if e != api.OK {
		t.Fatalf("Open: %v", e)
	}
	var w []api.Write
	for b := range slices.Chunk(list, 512) {
		w = append(w, api.Write{Block: len(w), Data: append(slices.Clone(b), make([]byte, 512-len(b))...)})
	}
	if e := l.Commit(w); e != api.OK {
		t.Fatalf("Commit: %v", e)
	}
	return d
}

// nodes are files by names.
type nodes = map[string]*inode.Node

// many are so many files without bytes, with names of so many bytes.
func many(count, long int) nodes {
	all := nodes{}
	for i := range count {
		all[fmt.Sprintf("%0*d", long, i)] = inode.New()
	}
	return all
}

// What lay makes is read again, on the edges of what may be.
func TestLists(t *testing.T) {
	for i, files := range []nodes{
		{},
		{"a": inode.New()},
		{"\x00": node(t, 1, run(0, 1)), strings.Repeat("\xff", 40): node(t, 512, run(27, 1))},
		{"a": node(t, 28*512, run(0, 28))},
		{"a": node(t, 28*512, run(14, 14), run(0, 14)), "b": inode.New()},
		{"a": node(t, 600, run(3, 1), run(1, 1)), "b": node(t, 600, run(2, 1), run(0, 1))},
		many(64, 40),
		many(9, 40), // the end of a block
	} {
		v := mount(t, listed(t, lay(files)))
		blocks := 0
		for name, f := range files {
			blocks += f.Blocks()
			if n, e := v.Size(name); n != f.Size() || e != api.OK {
				t.Errorf("list %d: %q: %d bytes, %v", i, name, n, e)
			}
		}
		if len(v.List()) != len(files) || v.Free() != 28-blocks {
			t.Errorf("list %d: %q, %d free", i, v.List(), v.Free())
		}
	}
}

// A list of which all bytes of a block are needed is read again, and one of a byte less or more too.
func TestListsOfWholeBlocks(t *testing.T) {
	for _, c := range []struct{ long, size int }{{28, 512}, {29, 512}, {30, 1024}} {
		files := many(11, 40) // with what stands ahead of them 480 bytes
		files[strings.Repeat("n", c.long)] = inode.New()
		if n := len(lay(files)); n != c.size {
			t.Errorf("%d bytes, not %d", n, c.size)
		}
		if v := mount(t, listed(t, lay(files))); len(v.List()) != 12 {
			t.Errorf("%q", v.List())
		}
	}
}

// Where a list is none that lay makes, there is no file system.
func TestListsOfOthers(t *testing.T) {
	changed := func(files nodes, do func(b []byte)) []byte {
		b := lay(files)
		do(b)
		return b
	}
	two := nodes{"a": node(t, 600, run(3, 2)), "b": node(t, 5, run(7, 1))}
	for name, list := range map[string][]byte{
		"a block beyond":      lay(nodes{"a": node(t, 5, run(28, 1))}),
		"a run beyond":        lay(nodes{"a": node(t, 1000, run(27, 2))}),
		"a block far beyond":  lay(nodes{"a": node(t, 5, run(511, 1))}),
		"a block twice":       lay(nodes{"a": node(t, 1000, run(3, 1), run(3, 1))}),
		"a block of two":      lay(nodes{"a": node(t, 600, run(3, 2)), "b": node(t, 5, run(4, 1))}),
		"a block of two, too": lay(nodes{"a": node(t, 600, run(3, 2)), "b": node(t, 5, run(3, 1))}),
		"more than there are": lay(nodes{"a": node(t, 32768, run(0, 64))}),
		"65 files":            lay(many(65, 3)),
		"200 files":           lay(many(200, 3)),
		"no name":             lay(nodes{"": inode.New()}),
		"no name among names": lay(nodes{"": inode.New(), "a": inode.New()}),
		"a name of 41 bytes":  lay(many(1, 41)),
		"a name of 255 bytes": lay(many(1, 255)),
		"another mark":        changed(two, func(b []byte) { b[0] = 'F' }),
		"no mark":             changed(two, func(b []byte) { b[4] = 0 }),
		"no blocks":           changed(two, func(b []byte) { b[5] = 0 }),
		"a block more":        changed(two, func(b []byte) { b[5] = 2 }),
		"17 blocks":           changed(two, func(b []byte) { b[5] = 17 }),
		"255 blocks":          changed(two, func(b []byte) { b[5] = 255 }),
		"a file less":         changed(two, func(b []byte) { b[6] = 1 }),
		"a file more":         changed(two, func(b []byte) { b[6] = 3 }),
		"255 files":           changed(two, func(b []byte) { b[6] = 255 }),
		"one name twice":      changed(two, func(b []byte) { b[bytes.IndexByte(b, 'b')] = 'a' }),
		"names that fall":     changed(two, func(b []byte) { b[8] = 'c' }),
		"more behind it":      changed(two, func(b []byte) { b[511] = 1 }),
		"a size without room": changed(nodes{"a": inode.New()}, func(b []byte) { b[9] = 1 }),
		"a name to its end":   changed(many(12, 40), func(b []byte) { b[5], b[7+43*11] = 1, 255 }),
		"nothing but a mark":  []byte("files"),
		"nothing but ff":      bytes.Repeat([]byte{255}, 512),
		"files to the end":    append([]byte("files\x01\xff"), bytes.Repeat([]byte{2, 'a', 'a', 0, 0}, 101)...),
		"a name at the end":   append([]byte("files\x01\xff"), append(bytes.Repeat([]byte{1, 'a', 0, 0}, 125), 0, 0, 0, 0, 40)...),
	} {
		if v, e := Mount(listed(t, list)); v != nil || e != api.ErrFsForm {
			t.Errorf("%s: %v", name, e)
		}
	}
}

// R1: whatever stands in the list, Mount ends, and what it mounts can be used.
func TestListsDrawn(t *testing.T) {
	r := rand.New(rand.NewSource(86))
	good := lay(nodes{"a": node(t, 600, run(3, 2)), "b": node(t, 5, run(7, 1)), "c": node(t, 2000, run(9, 1), run(11, 3))})
	mounted := 0
	for range 3000 {
		b := slices.Clone(good)
		for range 1 + r.Intn(3) {
			b[r.Intn(40)] = byte(r.Intn(256) >> r.Intn(8))
		}
		if v, e := Mount(listed(t, b)); e == api.OK {
			mounted++
			tell(t, v)
			v.Append("a", full(600))
			v.Remove("c")
			v.Sync()
			tell(t, v)
		} else if v != nil || e != api.ErrFsForm {
			t.Errorf("%x: %v", b[:40], e)
		}
	}
	if mounted == 0 {
		t.Error("none of them was mounted")
	}
}
