package fsdir

import (
	"bytes"
	"fmt"
	"maps"
	"math/rand"
	"slices"
	"strings"
	"testing"

	"cartulary/api"
	"cartulary/blockdev"
)

const (
	most  = 1<<63 - 1
	least = -1 << 63
)

// sizes are the edges of how many bytes a file may have.
func sizes() []int { return []int{0, 1, 2, 511, 512, 513, 1023, 1024, 1025, 16384, 32767, 32768} }

// made is a new device.
func made(t testing.TB, blocks int) *blockdev.Device {
	t.Helper()
	d, e := blockdev.New(blocks)
	if d == nil || e != api.OK {
		t.Fatalf("New(%d): %v", blocks, e)
	}
	return d
}

// laid is a device with a file system without files.
func laid(t testing.TB, blocks int) *blockdev.Device {
	t.Helper()
	d := made(t, blocks)
	if e := Format(d); e != api.OK {
		t.Fatalf("Format: %v", e)
	}
	return d
}

// mount mounts a device, and that goes well.
func mount(t testing.TB, d *blockdev.Device) *FS {
	t.Helper()
	v, e := Mount(d)
	if v == nil || e != api.OK {
		t.Fatalf("Mount: %v", e)
	}
	return v
}

// text is so many bytes, no two neighbouring blocks of them alike, those of another seed unlike.
func text(seed, n int) string {
	b := make([]byte, n)
	for i := range b {
		b[i] = byte(seed*31 + i*7 + i/512*13 + i/256)
	}
	return string(b)
}

// counted is how many blocks so many bytes need, counted one by one.
func counted(size int) int {
	k := 0
	for ; size > 0; size -= 512 {
		k++
	}
	return k
}

// file is what a file is to be: its bytes, and how many blocks it had at the last Sync.
type file struct {
	data string
	old  int
}

// state is what a file system is to be, told by the chapter's words.
type state struct {
	blocks int // that files have
	files  map[string]file
	last   map[string]file // at the last Sync
}

func newState(blocks int) *state {
	return &state{blocks - 36, map[string]file{}, map[string]file{}}
}

func (s *state) copy() *state { return &state{s.blocks, maps.Clone(s.files), maps.Clone(s.last)} }

func (s *state) free() int {
	n := s.blocks
	for _, f := range s.last {
		n -= counted(len(f.data))
	}
	for _, f := range s.files {
		n -= counted(len(f.data)) - f.old
	}
	return n
}

func (s *state) create(name string) api.Errno {
	if len(name) < 1 || len(name) > 40 {
		return api.ErrFsName
	}
	if _, there := s.files[name]; there {
		return api.ErrFsThere
	}
	if len(s.files) == 64 {
		return api.ErrFsMany
	}
	s.files[name] = file{}
	return api.OK
}

func (s *state) append(name, data string) api.Errno {
	f, there := s.files[name]
	switch {
	case !there:
		return api.ErrFsNone
	case len(f.data)+len(data) > 32768:
		return api.ErrFsLong
	case counted(len(f.data)+len(data))-counted(len(f.data)) > s.free():
		return api.ErrFsSpace
	}
	s.files[name] = file{f.data + data, f.old}
	return api.OK
}

func (s *state) read(name string, at, n int) (string, api.Errno) {
	f, there := s.files[name]
	switch {
	case !there:
		return "", api.ErrFsNone
	case at < 0 || at > len(f.data) || n < 0:
		return "", api.ErrArg
	case n > len(f.data)-at:
		return f.data[at:], api.OK
	}
	return f.data[at : at+n], api.OK
}

func (s *state) rename(from, to string) api.Errno {
	f, there := s.files[from]
	switch {
	case !there:
		return api.ErrFsNone
	case len(to) < 1 || len(to) > 40:
		return api.ErrFsName
	}
	delete(s.files, from)
	s.files[to] = f
	return api.OK
}

func (s *state) remove(name string) api.Errno {
	if _, there := s.files[name]; !there {
		return api.ErrFsNone
	}
	delete(s.files, name)
	return api.OK
}

func (s *state) sync() {
	for name, f := range s.files {
		s.files[name] = file{f.data, counted(len(f.data))}
	}
	s.last = maps.Clone(s.files)
}

func (s *state) reset() { s.files = maps.Clone(s.last) }

// tell is what is told of files, and of what is free.
func (s *state) tell() string {
	b := &strings.Builder{}
	for _, name := range slices.Sorted(maps.Keys(s.files)) {
		fmt.Fprintf(b, "%q: %q\n", name, s.files[name].data)
	}
	fmt.Fprintf(b, "%d free", s.free())
	return b.String()
}

// tell is that of a file system.
func tell(t testing.TB, v *FS) string {
	t.Helper()
	b := &strings.Builder{}
	for _, name := range v.List() {
		n, e := v.Size(name)
		data, f := v.Read(name, 0, most)
		if e != api.OK || f != api.OK || len(data) != n {
			t.Fatalf("%q: of %d bytes %d, %v, %v", name, n, len(data), e, f)
		}
		fmt.Fprintf(b, "%q: %q\n", name, data)
	}
	fmt.Fprintf(b, "%d free", v.Free())
	return b.String()
}

// both is a file system, and what it is to be: each call is done to both, and they must answer alike.
type both struct {
	t testing.TB
	d *blockdev.Device
	v *FS
	s *state
}

func pair(t testing.TB, blocks int) *both {
	t.Helper()
	d := laid(t, blocks)
	return &both{t, d, mount(t, d), newState(blocks)}
}

// same asks for an errno that is like the other one.
func (b *both) same(call string, got, want api.Errno) api.Errno {
	b.t.Helper()
	if got != want {
		b.t.Fatalf("%s: %d, not %d", call, got, want)
	}
	return got
}

func (b *both) create(name string) api.Errno {
	b.t.Helper()
	return b.same(fmt.Sprintf("Create(%q)", name), b.v.Create(name), b.s.create(name))
}

func (b *both) append(name, data string) api.Errno {
	b.t.Helper()
	return b.same(fmt.Sprintf("Append(%q, %d bytes)", name, len(data)), b.v.Append(name, []byte(data)), b.s.append(name, data))
}

func (b *both) read(name string, at, n int) api.Errno {
	b.t.Helper()
	got, e := b.v.Read(name, at, n)
	want, f := b.s.read(name, at, n)
	if string(got) != want {
		b.t.Fatalf("Read(%q, %d, %d): %q, not %q", name, at, n, got, want)
	}
	return b.same(fmt.Sprintf("Read(%q, %d, %d)", name, at, n), e, f)
}

func (b *both) size(name string) api.Errno {
	b.t.Helper()
	n, e := b.v.Size(name)
	f, there := b.s.files[name]
	if n != len(f.data) || there != (e == api.OK) || !there && e != api.ErrFsNone {
		b.t.Fatalf("Size(%q): %d, %d", name, n, e)
	}
	return e
}

func (b *both) rename(from, to string) api.Errno {
	b.t.Helper()
	return b.same(fmt.Sprintf("Rename(%q, %q)", from, to), b.v.Rename(from, to), b.s.rename(from, to))
}

func (b *both) remove(name string) api.Errno {
	b.t.Helper()
	return b.same(fmt.Sprintf("Remove(%q)", name), b.v.Remove(name), b.s.remove(name))
}

func (b *both) sync() {
	b.t.Helper()
	b.s.sync()
	b.same("Sync", b.v.Sync(), api.OK)
}

func (b *both) reset() {
	b.v.Reset()
	b.s.reset()
}

// is asks whether all that is told is as it is to be.
func (b *both) is() {
	b.t.Helper()
	if got, want := tell(b.t, b.v), b.s.tell(); got != want {
		b.t.Fatalf("%s\nnot\n%s", brief(got), brief(want))
	}
}

// brief is the beginning of a text.
func brief(s string) string {
	if len(s) > 2000 {
		return s[:1000] + " .. " + s[len(s)-1000:]
	}
	return s
}

// free asks for how many blocks are free, of both.
func (b *both) free(want int) {
	b.t.Helper()
	if got := b.v.Free(); got != want || b.s.free() != want {
		b.t.Errorf("%d free, not %d (by the model %d)", got, want, b.s.free())
	}
}

// full is so many bytes.
func full(n int) []byte { return bytes.Repeat([]byte{'x'}, n) }

// deep is one beyond how many writes of a block are pending in these tests at most.
const deep = 4

// crashes are a device's copies behind each crash that there can be, or, where these are many, behind the plainest ones and some that a fixed seed picks.
func crashes(d *blockdev.Device) []*blockdev.Device {
	var all []*blockdev.Device
	for _, picks := range ways(len(d.Pending())) {
		c := d.Copy()
		c.Crash(picks)
		all = append(all, c)
	}
	return all
}

// ways are the picks of so many blocks.
func ways(blocks int) [][]int {
	all := [][]int{{}}
	if blocks <= 2 {
		for range blocks {
			var more [][]int
			for _, picks := range all {
				for pick := range deep {
					more = append(more, append(slices.Clone(picks), pick))
				}
			}
			all = more
		}
		return all
	}
	for pick := 1; pick < deep; pick++ {
		all = append(all, slices.Repeat([]int{pick}, blocks))
	}
	for _, i := range []int{0, 1, blocks / 2, blocks - 1} {
		alone, lacking := make([]int, blocks), slices.Repeat([]int{1}, blocks)
		alone[i], lacking[i] = 1, 0
		all = append(all, alone, lacking)
	}
	r := rand.New(rand.NewSource(int64(blocks)))
	for range 5 {
		picks := make([]int, blocks)
		for i := range picks {
			picks[i] = r.Intn(deep)
		}
		all = append(all, picks)
	}
	return all
}

// stopped is a device that went down.
func stopped(d *blockdev.Device) *blockdev.Device {
	d.Fuse(0)
	d.Flush()
	return d
}
