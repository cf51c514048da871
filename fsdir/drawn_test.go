package fsdir

import (
	"fmt"
	"math/rand"
	"strings"
	"testing"

	"cartulary/api"
)

// drawnName is one of few names, mostly of such as may be.
func drawnName(r *rand.Rand) string {
	switch n := r.Intn(40); n {
	case 0:
		return ""
	case 1:
		return strings.Repeat("n", 41)
	case 2:
		return strings.Repeat("n", 40)
	default:
		return string(rune('a' + n%9))
	}
}

// drawnData are some bytes, mostly few.
func drawnData(r *rand.Rand) string {
	switch n := r.Intn(20); {
	case n < 10:
		return text(r.Intn(99), r.Intn(600))
	case n < 12:
		return text(r.Intn(99), 512*r.Intn(9))
	case n < 18:
		return text(r.Intn(99), r.Intn(5000))
	}
	return text(r.Intn(99), r.Intn(33000))
}

// drawnCall does one call, neither Sync nor Reset often, to both, and answers what they answered; they must answer alike, but where the device went down: then the model alone has changed, if that was a change.
func drawnCall(r *rand.Rand, b *both) api.Errno {
	b.t.Helper()
	name := drawnName(r)
	var got, want api.Errno
	var call string
	switch r.Intn(12) {
	case 0, 1:
		call, got, want = "Create", b.v.Create(name), b.s.create(name)
	case 2, 3, 4, 5:
		data := drawnData(r)
		call, got, want = "Append", b.v.Append(name, []byte(data)), b.s.append(name, data)
	case 6, 7:
		at, n := r.Intn(3000)-1, r.Intn(3000)-1
		data, e := b.v.Read(name, at, n)
		text, f := b.s.read(name, at, n)
		if e == api.OK && string(data) != text || e != api.OK && len(data) > 0 {
			b.t.Fatalf("Read(%q, %d, %d): %d bytes, not %d", name, at, n, len(data), len(text))
		}
		call, got, want = "Read", e, f
	case 8:
		n, e := b.v.Size(name)
		text, f := b.s.read(name, 0, most)
		if n != len(text) {
			b.t.Fatalf("Size(%q): %d, not %d", name, n, len(text))
		}
		call, got, want = "Size", e, f
	case 9:
		to := drawnName(r)
		call, got, want = "Rename", b.v.Rename(name, to), b.s.rename(name, to)
	case 10:
		call, got, want = "Remove", b.v.Remove(name), b.s.remove(name)
	default:
		if r.Intn(4) == 0 {
			b.reset()
		}
	}
	if got != want && !(got == api.ErrDown && b.d.Down()) {
		b.t.Fatalf("%s(%q): %d, not %d", call, name, got, want)
	}
	return got
}

// P8.2 to P8.5, P8.8: many drawn runs of calls, each call and all that is told held against what the chapter's words make of them.
func TestDrawn(t *testing.T) {
	for seed := range 120 {
		t.Run(fmt.Sprint(seed), func(t *testing.T) {
			t.Parallel()
			r := rand.New(rand.NewSource(int64(seed)))
			b := pair(t, []int{64, 65, 100, 300, 512}[seed%5])
			for i := range 400 {
				switch {
				case r.Intn(12) == 0:
					b.sync()
				case r.Intn(60) == 0: // what was not synced is gone
					b.v = mount(t, b.d)
					b.s.reset()
				default:
					drawnCall(r, b)
				}
				if b.v.Free() != b.s.free() {
					t.Fatalf("call %d: %d free, not %d", i, b.v.Free(), b.s.free())
				}
				if i%5 == 0 {
					b.is()
				}
			}
			b.is()
		})
	}
}

// P8.8: room that was given back is there again behind a Sync, however often it is taken and given.
func TestRoomComesBack(t *testing.T) {
	b := pair(t, 64)
	for i := range 50 {
		for j := range 7 {
			name := fmt.Sprint(j)
			b.create(name)
			b.same(name, b.append(name, text(i+j, 512*4-i)), api.OK)
		}
		b.free(0)
		b.is()
		b.sync()
		b.free(0)
		for j := range 7 {
			b.remove(fmt.Sprint(j))
		}
		b.free(0)
		b.sync()
		b.free(28)
	}
}
