package super

import (
	"bytes"
	"testing"

	"cartulary/api"
	"cartulary/blockdev"
)

// after is the record that a Store makes of another one.
func after(r record, data string) record { return record{data: data, count: r.count + 1} }

// storing is a Store, to be stopped.
func storing(at int, data string) func(*blockdev.Device) api.Errno {
	return func(d *blockdev.Device) api.Errno { return Store(d, at, []byte(data)) }
}

// formatting is a Format, to be stopped.
func formatting(at int, data string) func(*blockdev.Device) api.Errno {
	return func(d *blockdev.Device) api.Errno { return Format(d, at, []byte(data)) }
}

// P3.3: a Store that stops at each operation, behind each crash, behind Stores that stopped likewise.
func TestStoresThatStop(t *testing.T) {
	for _, at := range []int{0, 4, 62} {
		d := made(t, 64)
		format(t, d, at, "0")
		now := record{data: "0"}
		for _, data := range []string{"1", "2", long(400), ""} {
			stopStores(t, d, at, now, []string{"x", long(399), ""})
			store(t, d, at, data)
			now = after(now, data)
		}
	}
}

// stopStores stores texts, one behind the other, of which each stops; what is told behind each crash is what the next one begins with.
func stopStores(t *testing.T, d *blockdev.Device, at int, now record, texts []string) {
	t.Helper()
	tells(t, d, at, now)
	if len(texts) == 0 {
		return
	}
	next := after(now, texts[0])
	left, well := stops(t, d, storing(at, texts[0]))
	stays(t, well, at, next)
	seen := map[record]int{}
	for _, x := range left {
		got := told(x, at)
		seen[got]++
		if got != now && got != next {
			t.Fatalf("a Store of %+v over %+v stopped: %+v", next, now, got)
		}
		stays(t, x, at, got)
		stopStores(t, x, at, got, texts[1:])
	}
	if seen[now] == 0 || seen[next] == 0 {
		t.Errorf("of the record ahead of a Store and that behind it one is never left: %v", seen)
	}
}

// P3.3: a Store of the same bytes, which the count alone tells apart.
func TestSameBytesThatStop(t *testing.T) {
	d := made(t, 64)
	format(t, d, 4, "a")
	for i := range 4 {
		stopStores(t, d, 4, record{data: "a", count: i}, []string{"a", "a", "a"})
		store(t, d, 4, "a")
	}
}

// P3.3: the crash picks of other blocks too, which the Store leaves alone.
func TestStopAmongOthers(t *testing.T) {
	d := made(t, 64)
	format(t, d, 4, "a")
	store(t, d, 4, "b")
	for _, n := range []int{3, 6} {
		put(t, d, n, full('u'))
		put(t, d, n, full('v'))
	}
	now, next := record{data: "b", count: 1}, record{data: "c", count: 2}
	left, well := stops(t, d, storing(4, "c"))
	stays(t, well, 4, next)
	for _, x := range left {
		got := told(x, 4)
		if got != now && got != next {
			t.Fatalf("%+v", got)
		}
		for _, n := range []int{3, 6} {
			if b := block(t, x, n); !bytes.Equal(b, full(b[0])) || b[0] != 0 && b[0] != 'u' && b[0] != 'v' {
				t.Errorf("block %d: %q", n, b)
			}
		}
		stays(t, x, 4, got)
		store(t, x, 4, "d")
		stays(t, x, 4, after(got, "d"))
	}
}

// P3.3: the records beside one that stops stay as they are.
func TestStopBesideOthers(t *testing.T) {
	d := made(t, 64)
	for i, at := range []int{2, 4, 6} {
		format(t, d, at, long(i))
		store(t, d, at, long(i+1))
	}
	for _, do := range []func(*blockdev.Device) api.Errno{storing(4, "x"), formatting(4, "x")} {
		left, well := stops(t, d, do)
		for _, x := range append(left, well) {
			stays(t, x, 2, record{data: long(1), count: 1})
			stays(t, x, 6, record{data: long(3), count: 1})
		}
	}
}

// P3.3: behind a Format that stops there is a record or none, and that stays; a new Format lays one.
func TestFormatsThatStop(t *testing.T) {
	for stores := range 5 {
		d := made(t, 64)
		now := none
		if stores > 0 {
			format(t, d, 4, "0")
			now = record{data: "0"}
		}
		for i := range max(stores-1, 0) {
			store(t, d, 4, long(i))
			now = after(now, long(i))
		}
		stopFormats(t, d, now, []string{"x", long(400), ""})
	}
}

// stopFormats lays texts, one behind the other, of which each stops.
func stopFormats(t *testing.T, d *blockdev.Device, now record, texts []string) {
	t.Helper()
	tells(t, d, 4, now)
	if len(texts) == 0 {
		return
	}
	next := record{data: texts[0]}
	left, well := stops(t, d, formatting(4, texts[0]))
	stays(t, well, 4, next)
	stopStores(t, well, 4, next, texts[1:])
	for _, x := range left {
		got := told(x, 4)
		if got != now && got != next {
			t.Fatalf("a Format of %+v over %+v stopped: %+v", next, now, got)
		}
		stays(t, x, 4, got)
		stopFormats(t, x, got, texts[1:])
		if e := Store(x, 4, []byte("s")); e != got.e {
			t.Errorf("Store behind a Format that stopped: %v, not %v", e, got.e)
		}
		format(t, x, 4, "f")
		stays(t, x, 4, record{data: "f"})
	}
}

// A Store where nothing is laid, and a Load, write nothing wherever they stop.
func TestReadersThatStop(t *testing.T) {
	d := made(t, 64)
	put(t, d, 20, full('x'))
	for k := range 5 {
		c := d.Copy()
		c.Fuse(k)
		if e := Store(c, 4, []byte("a")); e != api.ErrDown && e != api.ErrSuperNone || e == api.ErrDown != c.Down() {
			t.Errorf("Store: %v, down %v", e, c.Down())
		}
		if p := c.Pending(); len(p) != 1 || p[0] != 20 {
			t.Errorf("pending %v behind a Store that was refused", p)
		}
		c.Crash(nil)
		tells(t, c, 4, none)
	}
	format(t, d, 4, "a")
	put(t, d, 20, full('y'))
	told(d, 4)
	if p := d.Pending(); len(p) != 1 || p[0] != 20 {
		t.Errorf("pending %v behind a Load", p)
	}
}
