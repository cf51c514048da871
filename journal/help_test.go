package journal

import (
	"bytes"
	"crypto/sha256"
	"fmt"
	"math/rand"
	"slices"
	"strings"
	"testing"

	"cartulary/api"
	"cartulary/blockdev"
)

const (
	most  = 1<<63 - 1
	least = -1 << 63
)

// made is a new device.
func made(t *testing.T, blocks int) *blockdev.Device {
	t.Helper()
	d, e := blockdev.New(blocks)
	if d == nil || e != api.OK {
		t.Fatalf("New(%d): %v", blocks, e)
	}
	return d
}

// laid is a device with a log of noughts.
func laid(t *testing.T, blocks int) *blockdev.Device {
	t.Helper()
	d := made(t, blocks)
	if e := Format(d); e != api.OK {
		t.Fatalf("Format: %v", e)
	}
	return d
}

// open opens a log, and that goes well.
func open(t *testing.T, d *blockdev.Device) *Log {
	t.Helper()
	l, e := Open(d)
	if l == nil || e != api.OK {
		t.Fatalf("Open: %v", e)
	}
	return l
}

// full is a block of one byte.
func full(c byte) []byte { return bytes.Repeat([]byte{c}, api.BlockSize) }

// put puts a block of one byte, and that goes well.
func put(t *testing.T, l *Log, n int, c byte) {
	t.Helper()
	if e := l.Put(n, full(c)); e != api.OK {
		t.Fatalf("Put(%d): %v", n, e)
	}
}

// one is a block that is to be of one byte.
type one struct {
	n int
	c byte
}

// writes are what Commit takes.
func writes(ones []one) []api.Write {
	var w []api.Write
	for _, x := range ones {
		w = append(w, api.Write{Block: x.n, Data: full(x.c)})
	}
	return w
}

// commit commits blocks of one byte each, and that goes well.
func commit(t *testing.T, l *Log, ones ...one) {
	t.Helper()
	if e := l.Commit(writes(ones)); e != api.OK {
		t.Fatalf("Commit(%v): %v", ones, e)
	}
}

// refused asks whether a Read answers just an error.
func refused(t *testing.T, l *Log, n int, want api.Errno) {
	t.Helper()
	if b, e := l.Read(n); len(b) != 0 || e != want {
		t.Errorf("Read(%d): %d bytes, %v; not %v", n, len(b), e, want)
	}
}

// look is what a log tells of all its blocks, a byte each.
func look(t *testing.T, l *Log) string {
	t.Helper()
	var all []byte
	for n := range l.Size() {
		b, e := l.Read(n)
		if e != api.OK || len(b) != api.BlockSize || !bytes.Equal(b, full(b[0])) {
			t.Fatalf("Read(%d): %d bytes, %v", n, len(b), e)
		}
		all = append(all, b[0])
	}
	return string(all)
}

// told is what a log tells that is opened on a copy of a device.
func told(t *testing.T, d *blockdev.Device) string {
	t.Helper()
	c := d.Copy()
	c.Fuse(-1)
	return look(t, open(t, c))
}

// tells asks whether a log tells just that.
func tells(t *testing.T, l *Log, want string) {
	t.Helper()
	if got := look(t, l); got != want {
		t.Errorf("%q, not %q", got, want)
	}
}

// noughts are as many blocks of them.
func noughts(n int) string { return strings.Repeat("\x00", n) }

// with is a text of blocks of which some are changed, the last one of those that are named twice.
func with(s string, ones ...one) string {
	b := []byte(s)
	for _, x := range ones {
		b[x.n] = x.c
	}
	return string(b)
}

// stopped is a device that went down.
func stopped(d *blockdev.Device) *blockdev.Device {
	d.Fuse(0)
	d.Flush()
	return d
}

// deep is one beyond how many writes of a block are pending in these tests at most.
const deep = 4

// crashes are a device's copies behind each crash that there can be, or, where these are many, behind the plainest ones and some that a fixed seed picks.
func crashes(d *blockdev.Device) []*blockdev.Device {
	var all []*blockdev.Device
	for _, picks := range ways(len(d.Pending())) {
		c := d.Copy()
		c.Crash(picks)
		all = append(all, c)
	}
	return all
}

// ways are the picks of so many blocks.
func ways(blocks int) [][]int {
	all := [][]int{{}}
	if blocks <= 3 {
		for range blocks {
			var more [][]int
			for _, picks := range all {
				for pick := range deep {
					more = append(more, append(slices.Clone(picks), pick))
				}
			}
			all = more
		}
		return all
	}
	for pick := 1; pick < deep; pick++ {
		all = append(all, slices.Repeat([]int{pick}, blocks))
	}
	for _, i := range []int{0, 1, blocks / 2, blocks - 1} {
		alone, lacking := make([]int, blocks), slices.Repeat([]int{1}, blocks)
		alone[i], lacking[i] = 1, 0
		all = append(all, alone, lacking)
	}
	r := rand.New(rand.NewSource(int64(blocks)))
	for range 5 {
		picks := make([]int, blocks)
		for i := range picks {
			picks[i] = r.Intn(deep)
		}
		all = append(all, picks)
	}
	return all
}

// stops does something on copies of a device, and lets each stop at another operation, till it goes well. It answers the devices that stopped, and the one on which it went well.
func stops(t *testing.T, d *blockdev.Device, do func(*blockdev.Device) api.Errno) ([]*blockdev.Device, *blockdev.Device) {
	t.Helper()
	var all []*blockdev.Device
	for k := range 2000 {
		c := d.Copy()
		c.Fuse(k)
		e := do(c)
		if e == api.OK {
			c.Fuse(-1)
			return all, c
		}
		if e != api.ErrDown || !c.Down() {
			t.Fatalf("stopped at %d: %v, down %v", k, e, c.Down())
		}
		all = append(all, c)
	}
	t.Fatal("it does not end")
	return nil, nil
}

// opening is an Open, to be stopped.
func opening(d *blockdev.Device) api.Errno {
	l, e := Open(d)
	if (l == nil) != (e != api.OK) {
		return api.ErrArg
	}
	return e
}

// state is what may be told of a log: each block as it is for sure, and what was put behind that.
type state struct {
	sure string
	puts []one
}

// last is each block as it was put last.
func (s state) last() string { return with(s.sure, s.puts...) }

// may tells whether a crash may leave just that.
func (s state) may(got string) bool {
	if len(got) != len(s.sure) {
		return false
	}
	for n := range len(got) {
		if got[n] != s.sure[n] && !slices.Contains(s.puts, one{n, got[n]}) {
			return false
		}
	}
	return true
}

// stays asks whether what is told of a log behind a crash stays so: when it is opened again, through crashes, and through Opens that stop, so many ones behind one another.
func stays(t *testing.T, d *blockdev.Device, want string, opens int) {
	t.Helper()
	staysAmong(t, known{}, d, want, opens)
}

// staysAmong asks that of devices that are not known yet, for those that stand alike go on alike.
func staysAmong(t *testing.T, seen known, d *blockdev.Device, want string, opens int) {
	t.Helper()
	if seen.has(t, d, want, opens) {
		return
	}
	c := d.Copy()
	for range 3 {
		tells(t, open(t, c), want)
	}
	c.Crash([]int{1, 1, 1})
	tells(t, open(t, c), want)
	if opens == 0 {
		return
	}
	left, well := stops(t, d, opening)
	for _, x := range append(left, well) {
		for _, y := range crashes(x) {
			staysAmong(t, seen, y, want, opens-1)
		}
	}
}

// known are devices with nothing pending, by what they are.
type known map[[32]byte]int

// has tells whether a device was there, and adds it. What else is to be asked of it may be told too.
func (k known) has(t *testing.T, d *blockdev.Device, asked ...any) bool {
	t.Helper()
	if len(d.Pending()) > 0 {
		t.Fatalf("pending %v", d.Pending())
	}
	h := sha256.New()
	fmt.Fprintf(h, "%q", asked)
	c := d.Copy()
	for n := range c.Blocks() {
		b, e := c.Read(n)
		if e != api.OK {
			t.Fatalf("Read(%d): %v", n, e)
		}
		h.Write(b)
	}
	key := [32]byte(h.Sum(nil))
	k[key]++
	return k[key] > 1
}
