package journal

import (
	"testing"

	"cartulary/api"
	"cartulary/blockdev"
)

// isDown asks whether a log answers ErrDown to all, wrong things too, and Size as ever, and does nothing.
func isDown(t *testing.T, d *blockdev.Device, l *Log, size int) {
	t.Helper()
	ops, pending := d.Ops(), len(d.Pending())
	for _, n := range []int{least, -1, 0, size - 1, size, most} {
		refused(t, l, n, api.ErrDown)
		for _, data := range [][]byte{nil, full('z'), full('z')[:511], append(full('z'), 'z')} {
			if e := l.Put(n, data); e != api.ErrDown {
				t.Errorf("Put(%d, %d bytes): %v", n, len(data), e)
			}
			if e := l.Commit([]api.Write{{Block: n, Data: data}}); e != api.ErrDown {
				t.Errorf("Commit(%d, %d bytes): %v", n, len(data), e)
			}
		}
	}
	for _, k := range []int{0, 1, 16, 17} {
		if e := l.Commit(make([]api.Write, k)); e != api.ErrDown {
			t.Errorf("Commit of %d: %v", k, e)
		}
	}
	if l.Size() != size {
		t.Errorf("Size: %d", l.Size())
	}
	if d.Ops() != ops || len(d.Pending()) != pending {
		t.Errorf("%d operations by a log that is down, pending %v", d.Ops()-ops, d.Pending())
	}
}

// P4.5: whatever stopped, the log answers ErrDown from then on, also when the device is up again; one that is opened anew goes on.
func TestDown(t *testing.T) {
	for name, do := range map[string]func(*Log) api.Errno{
		"Read":            func(l *Log) api.Errno { _, e := l.Read(0); return e },
		"Put":             func(l *Log) api.Errno { return l.Put(0, full('a')) },
		"Commit":          func(l *Log) api.Errno { return l.Commit(writes([]one{{0, 'a'}, {1, 'b'}})) },
		"Commit of none":  func(l *Log) api.Errno { return l.Commit(nil) },
		"Commit of twice": func(l *Log) api.Errno { return l.Commit(writes([]one{{0, 'a'}, {0, 'b'}})) },
	} {
		t.Run(name, func(t *testing.T) {
			for k := range 200 {
				d := laid(t, 64)
				l := open(t, d)
				d.Fuse(k / 2)
				if e := do(l); e == api.OK {
					return
				} else if e != api.ErrDown || !d.Down() {
					t.Fatalf("stopped at %d: %v", k/2, e)
				}
				if k%2 == 0 { // else it is asked for the first time when the device is up again
					isDown(t, d, l, 44)
				}
				d.Crash([]int{1, 1, 1})
				isDown(t, d, l, 44)
				m := open(t, d)
				commit(t, m, one{0, 'm'}, one{5, 'm'})
				isDown(t, d, l, 44)
				d.Crash(nil)
				isDown(t, d, l, 44)
				if s := told(t, d); s[0] != 'm' || s[5] != 'm' {
					t.Errorf("%q", s)
				}
				if e := Format(d); e != api.OK {
					t.Errorf("Format: %v", e)
				}
				isDown(t, d, l, 44)
			}
			t.Error("it does not end")
		})
	}
}

// P4.5: a device that somebody else took down.
func TestTakenDown(t *testing.T) {
	d := laid(t, 100)
	l := open(t, d)
	stopped(d)
	refused(t, l, -1, api.ErrDown)
	isDown(t, d, l, 80)
	d.Crash(nil)
	isDown(t, d, l, 80)
	l = open(t, d)
	stopped(d)
	if e := l.Put(80, nil); e != api.ErrDown {
		t.Errorf("Put: %v", e)
	}
	d.Crash(nil)
	isDown(t, d, l, 80)
	l = open(t, d)
	stopped(d)
	if e := l.Commit(make([]api.Write, 17)); e != api.ErrDown {
		t.Errorf("Commit: %v", e)
	}
	d.Crash(nil)
	isDown(t, d, l, 80)
}

// On a device that is down there is nothing to be laid or opened, whether a log lies there or not.
func TestDeviceDown(t *testing.T) {
	for _, d := range []*blockdev.Device{made(t, 64), laid(t, 64)} {
		there := opening(d) == api.OK
		stopped(d)
		if e := Format(d); e != api.ErrDown {
			t.Errorf("Format: %v", e)
		}
		if l, e := Open(d); l != nil || e != api.ErrDown {
			t.Errorf("Open: %v", e)
		}
		d.Crash(nil)
		if e := opening(d); (e == api.OK) != there {
			t.Errorf("Open: %v", e)
		}
	}
}

// A fuse at 0 lets no operation go well; what is refused by its arguments does none, and the log is up.
func TestFuse(t *testing.T) {
	d := laid(t, 64)
	l := open(t, d)
	d.Fuse(0)
	refused(t, l, 44, api.ErrLogBlock)
	if e := l.Put(0, nil); e != api.ErrSize {
		t.Errorf("Put: %v", e)
	}
	if e := l.Commit(make([]api.Write, 17)); e != api.ErrLogMany {
		t.Errorf("Commit of 17: %v", e)
	}
	if e := l.Commit(make([]api.Write, 1)); e != api.ErrSize {
		t.Errorf("Commit: %v", e)
	}
	if l.Size() != 44 || d.Down() {
		t.Errorf("Size %d, down %v", l.Size(), d.Down())
	}
	d.Fuse(-1)
	tells(t, l, noughts(44))
}

// Steps are done in their order, and none behind the first that goes wrong.
func TestChain(t *testing.T) {
	for _, wrong := range []int{0, 1, 3, 9} {
		then, done := chain(), ""
		for i := range 5 {
			want := api.OK
			if i >= wrong {
				want = api.ErrSize
			}
			e := then(func() api.Errno {
				done += string(rune('0' + i))
				if i == wrong {
					return api.ErrSize
				}
				return api.OK
			})
			if e != want {
				t.Errorf("step %d, %d is wrong: %v", i, wrong, e)
			}
		}
		if done != "01234"[:min(wrong+1, 5)] {
			t.Errorf("%d is wrong: %s are done", wrong, done)
		}
	}
}
