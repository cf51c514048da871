package segment

import (
	"crypto/sha256"
	"fmt"
	"maps"
	"math/rand"
	"slices"
	"strconv"
	"strings"
	"testing"

	"cartulary/api"
	"cartulary/blockdev"
	"cartulary/codec"
	"cartulary/fsdir"
)

// laid is a device with a file system without files.
func laid(t testing.TB, blocks int) *blockdev.Device {
	t.Helper()
	d, e := blockdev.New(blocks)
	if e != api.OK {
		t.Fatalf("New(%d): %v", blocks, e)
	}
	if e := fsdir.Format(d); e != api.OK {
		t.Fatalf("Format: %v", e)
	}
	return d
}

// mount mounts a device, and that goes well.
func mount(t testing.TB, d *blockdev.Device) *fsdir.FS {
	t.Helper()
	v, e := fsdir.Mount(d)
	if v == nil || e != api.OK {
		t.Fatalf("Mount: %v", e)
	}
	return v
}

// open opens the log of a file system, and that goes well.
func open(t testing.TB, v *fsdir.FS) *Log {
	t.Helper()
	l, e := Open(v)
	if l == nil || e != api.OK {
		t.Fatalf("Open: %v", e)
	}
	return l
}

// empty is a mounted file system without files.
func empty(t testing.TB, blocks int) *fsdir.FS {
	t.Helper()
	return mount(t, laid(t, blocks))
}

// text is so many bytes; those of another seed are unlike.
func text(seed, n int) string {
	b := make([]byte, n)
	for i := range b {
		b[i] = byte(seed*31 + i*7 + i/256)
	}
	return string(b)
}

// frame is one with so many bytes of Data.
func frame(seed, n int) api.Frame { return api.Frame{Kind: byte(seed), Data: []byte(text(seed, n))} }

// frames are such ones, one for each number of bytes.
func frames(sizes ...int) []api.Frame {
	var l []api.Frame
	for i, n := range sizes {
		l = append(l, frame(i+n, n))
	}
	return l
}

// long is how many bytes a frame with so many bytes of Data has.
func long(n int) int {
	if n < 128 {
		return 6 + n
	}
	return 7 + n
}

// longFrame is a frame that has just so many bytes, which must be 6 to 133 or 135 to 2007.
func longFrame(seed, bytes int) api.Frame {
	n := bytes - 6
	if n >= 128 {
		n--
	}
	return frame(seed, n)
}

// bytesOf are frames one behind the other.
func bytesOf(l ...api.Frame) string {
	b := &strings.Builder{}
	for _, f := range l {
		one, _ := codec.PutFrame(nil, f)
		b.Write(one)
	}
	return b.String()
}

// put makes a file of bytes, and that goes well.
func put(t testing.TB, v *fsdir.FS, name, data string) {
	t.Helper()
	if e := v.Create(name); e != api.OK {
		t.Fatalf("Create(%q): %v", name, e)
	}
	if e := v.Append(name, []byte(data)); e != api.OK {
		t.Fatalf("Append(%q, %d bytes): %v", name, len(data), e)
	}
}

// sync syncs, and that goes well.
func sync(t testing.TB, v *fsdir.FS) {
	t.Helper()
	if e := v.Sync(); e != api.OK {
		t.Fatalf("Sync: %v", e)
	}
}

// counted is how many blocks so many bytes need, counted one by one.
func counted(size int) int {
	k := 0
	for ; size > 0; size -= 512 {
		k++
	}
	return k
}

// leave makes a file of others that leaves so many blocks free.
func leave(t testing.TB, v *fsdir.FS, blocks int) {
	t.Helper()
	for i := 0; v.Free() > blocks; i++ {
		put(t, v, fmt.Sprintf("fill%d", i), text(i, 512*min(64, v.Free()-blocks)))
	}
	if v.Free() != blocks {
		t.Fatalf("%d free, not %d", v.Free(), blocks)
	}
}

// content is what all files of a file system have.
func content(t testing.TB, v *fsdir.FS) map[string]string {
	t.Helper()
	all := map[string]string{}
	for _, name := range v.List() {
		data, e := v.Read(name, 0, 40000)
		if e != api.OK {
			t.Fatalf("Read(%q): %v", name, e)
		}
		all[name] = string(data)
	}
	return all
}

// tellFiles is what is told of files.
func tellFiles(files map[string]string) string {
	b := &strings.Builder{}
	for _, name := range slices.Sorted(maps.Keys(files)) {
		fmt.Fprintf(b, "%q, %d bytes: %s\n", name, len(files[name]), files[name])
	}
	return b.String()
}

// tellFrames is what is told of a log's frames.
func tellFrames(l []api.Frame) string {
	b := &strings.Builder{}
	for i, f := range l {
		fmt.Fprintf(b, "%d: kind %d, %d bytes: %s\n", i, f.Kind, len(f.Data), f.Data)
	}
	return b.String()
}

// collected are a log's frames, whose numbers must be their places.
func collected(t testing.TB, l *Log) []api.Frame {
	t.Helper()
	var all []api.Frame
	for n, f := range l.All() {
		if n != len(all) {
			t.Fatalf("the frame %d has the number %d", len(all), n)
		}
		all = append(all, f)
	}
	return all
}

// tell is what is told of a log, and of all files beside it.
func tell(t testing.TB, v *fsdir.FS, l *Log) string {
	t.Helper()
	all := collected(t, l)
	if l.Len() != len(all) {
		t.Fatalf("Len: %d, of %d frames", l.Len(), len(all))
	}
	return tellFrames(all) + fmt.Sprintln(l.Segments()) + tellFiles(content(t, v))
}

// brief is the beginning of a text, and its end.
func brief(s string) string {
	if len(s) > 2000 {
		return strconv.Quote(s[:1000]) + " .. " + strconv.Quote(s[len(s)-1000:])
	}
	return strconv.Quote(s)
}

// world is a log, and what it and the files are to be, by the chapter's words.
type world struct {
	t      testing.TB
	d      *blockdev.Device
	v      *fsdir.FS
	l      *Log
	frames []api.Frame
	sizes  []int
	others map[string]string // files that are no segments
	last   map[string]string // these at the last Sync
}

// begin is a log without frames.
func begin(t testing.TB, blocks int) *world {
	t.Helper()
	d := laid(t, blocks)
	v := mount(t, d)
	return &world{t: t, d: d, v: v, l: open(t, v), others: map[string]string{}, last: map[string]string{}}
}

// again is the same on a copy of its device; all must be synced.
func (w *world) again() *world {
	w.t.Helper()
	c := *w
	c.d = w.d.Copy()
	c.v = mount(c.t, c.d)
	c.l = open(c.t, c.v)
	c.frames, c.sizes = slices.Clone(w.frames), slices.Clone(w.sizes)
	c.others, c.last = maps.Clone(w.last), maps.Clone(w.last)
	return &c
}

// laidSizes are the segments' sizes behind an Append of frames.
func laidSizes(sizes []int, l []api.Frame) []int {
	sizes = slices.Clone(sizes)
	for _, f := range l {
		n := long(len(f.Data))
		if len(sizes) == 0 || sizes[len(sizes)-1]+n > 8192 {
			sizes = append(sizes, n)
		} else {
			sizes[len(sizes)-1] += n
		}
	}
	return sizes
}

// room is whether the file system takes segments of such sizes in place of those that there are.
func (w *world) room(sizes []int) bool {
	need := 0
	for i, n := range sizes {
		need += counted(n)
		if i < len(w.sizes) {
			need -= counted(w.sizes[i])
		}
	}
	return need <= w.v.Free() && len(sizes)+len(w.others) <= 64
}

// answer is what an Append of frames is to answer.
func (w *world) answer(l []api.Frame) api.Errno {
	for _, f := range l {
		if len(f.Data) > 2000 {
			return api.ErrSegLong
		}
	}
	if !w.room(laidSizes(w.sizes, l)) {
		return api.ErrSegSpace
	}
	return api.OK
}

// done is that an Append of frames was answered so.
func (w *world) done(l []api.Frame, e api.Errno) {
	switch e {
	case api.OK:
		w.frames, w.sizes = slices.Concat(w.frames, l), laidSizes(w.sizes, l)
		w.last = maps.Clone(w.others)
	case api.ErrSegSpace:
		w.others = maps.Clone(w.last)
	}
}

// append appends frames, which must be answered as it is to be.
func (w *world) append(l ...api.Frame) api.Errno {
	w.t.Helper()
	want := w.answer(l)
	got := w.l.Append(l)
	if got != want {
		w.t.Fatalf("Append of %d frames: %d, not %d", len(l), got, want)
	}
	w.done(l, want)
	return got
}

// put, remove, sync and reset are what others do.
func (w *world) put(name, data string) {
	w.t.Helper()
	put(w.t, w.v, name, data)
	w.others[name] = data
}

func (w *world) remove(name string) {
	w.t.Helper()
	if e := w.v.Remove(name); e != api.OK {
		w.t.Fatalf("Remove(%q): %v", name, e)
	}
	delete(w.others, name)
}

func (w *world) sync() {
	w.t.Helper()
	sync(w.t, w.v)
	w.last = maps.Clone(w.others)
}

func (w *world) reset() {
	w.v.Reset()
	w.others = maps.Clone(w.last)
}

// leave lets others leave so many blocks free.
func (w *world) leave(blocks int) {
	w.t.Helper()
	for i := 0; w.v.Free() > blocks; i++ {
		name := fmt.Sprintf("fill%d", i)
		if _, there := w.others[name]; !there {
			w.put(name, text(i, 512*min(64, w.v.Free()-blocks)))
		}
	}
}

// reopen lets the device crash, and opens all anew.
func (w *world) reopen(picks ...int) {
	w.t.Helper()
	w.d.Crash(picks)
	w.v = mount(w.t, w.d)
	w.l = open(w.t, w.v)
	w.others = maps.Clone(w.last)
}

// files are what all files are to be.
func (w *world) files() map[string]string {
	all := maps.Clone(w.others)
	data := bytesOf(w.frames...)
	for i, size := range w.sizes {
		all[fmt.Sprint("seg.", i)] = data[:size]
		data = data[size:]
	}
	return all
}

// want is what tell is to tell.
func (w *world) want() string {
	return tellFrames(w.frames) + fmt.Sprintln(w.sizes) + tellFiles(w.files())
}

// is asks whether all that is told is as it is to be, and whether the files are.
func (w *world) is() {
	w.t.Helper()
	if got, want := tell(w.t, w.v, w.l), w.want(); got != want {
		w.t.Fatalf("%s\nnot\n%s", brief(got), brief(want))
	}
}

// was and next are what is left behind a crash: without an Append of frames, and with it.
func (w *world) was() string {
	c := *w
	c.others = w.last
	return c.want()
}

func (w *world) next(l []api.Frame) string {
	c := *w
	c.done(l, api.OK)
	return c.want()
}

// deep is one beyond how many writes of a block are pending in these tests at most.
const deep = 4

// crashes are a device's copies behind each crash that there can be, or, where these are many, behind the plainest ones and some that a fixed seed picks.
func crashes(d *blockdev.Device) []*blockdev.Device {
	var all []*blockdev.Device
	for _, picks := range ways(len(d.Pending())) {
		c := d.Copy()
		c.Crash(picks)
		all = append(all, c)
	}
	return all
}

// ways are the picks of so many blocks.
func ways(blocks int) [][]int {
	all := [][]int{{}}
	if blocks <= 2 {
		for range blocks {
			var more [][]int
			for _, picks := range all {
				for pick := range deep {
					more = append(more, append(slices.Clone(picks), pick))
				}
			}
			all = more
		}
		return all
	}
	for pick := 1; pick < deep; pick++ {
		all = append(all, slices.Repeat([]int{pick}, blocks))
	}
	for _, i := range []int{0, 1, blocks / 2, blocks - 1} {
		alone, lacking := make([]int, blocks), slices.Repeat([]int{1}, blocks)
		alone[i], lacking[i] = 1, 0
		all = append(all, alone, lacking)
	}
	r := rand.New(rand.NewSource(int64(blocks)))
	for range 5 {
		picks := make([]int, blocks)
		for i := range picks {
			picks[i] = r.Intn(deep)
		}
		all = append(all, picks)
	}
	return all
}

// known are devices with nothing pending, by what they are: those that stand alike go on alike.
type known map[[32]byte]int

// has tells whether a device was there, and adds it. What else is to be asked of it is told too.
func (k known) has(t testing.TB, d *blockdev.Device, asked ...any) bool {
	t.Helper()
	if len(d.Pending()) > 0 {
		t.Fatalf("pending %v", d.Pending())
	}
	h := sha256.New()
	fmt.Fprintf(h, "%q", asked)
	c := d.Copy()
	for n := range c.Blocks() {
		b, e := c.Read(n)
		if e != api.OK {
			t.Fatalf("Read(%d): %v", n, e)
		}
		h.Write(b)
	}
	key := [32]byte(h.Sum(nil))
	k[key]++
	return k[key] > 1
}

// told is what is told of a copy of a device on which all is opened.
func told(t testing.TB, d *blockdev.Device) string {
	t.Helper()
	c := d.Copy()
	c.Fuse(-1)
	v := mount(t, c)
	l := open(t, v)
	return tell(t, v, l)
}
