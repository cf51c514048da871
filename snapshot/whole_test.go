package snapshot

import (
	"math/rand"
	"slices"
	"strings"
	"testing"

	"cartulary/api"
	"cartulary/codec"
)

// laid is what is saved of a state.
func laid(t testing.TB, stream string, count int, state ...api.Field) string {
	t.Helper()
	b, ok := lay(stream, count, state)
	if !ok {
		t.Fatalf("%v is not laid", state)
	}
	return string(b)
}

// sealed are bytes with their sum ahead.
func sealed(parts ...string) string {
	b := strings.Join(parts, "")
	return string(codec.Put32(nil, codec.Sum([]byte(b)))) + b
}

func textOf(s string) string { return string(codec.PutText(nil, s)) }

func intOf(n int) string { return string(codec.PutInt(nil, n)) }

// four is a world with a stream of four events, of which nothing is kept.
func four(t testing.TB) *world {
	t.Helper()
	w := begin(t, 128, chapter())
	w.add("acc", opened(50), taken(2), taken(3), taken(4))
	w.add("box", opened(7), opened(8), opened(9), opened(10), opened(11))
	return w
}

// counts asks for bytes under each of the names, and under both, to be gone on from at so many events; 0: to count for nothing.
func (w *world) counts(from int, data string) {
	w.t.Helper()
	l := names("acc")
	for _, put := range [][2]bool{{true, false}, {false, true}, {true, true}} {
		for at, name := range l {
			w.s.Drop(name)
			if put[at] {
				w.save(name, data)
			}
		}
		w.loads("acc", from)
	}
}

// What was laid is read as it was.
func TestLaidIsWhole(t *testing.T) {
	for _, stream := range []string{"a", "acc", strings.Repeat("\xff", 60)} {
		for _, count := range []int{1, 2, 63, 64, 300, 1 << 40, most} {
			for _, state := range [][]api.Field{nil, {number("a", least)}, {number("a", 5), words("b", "&='%\x00é"), words("c", "")}} {
				n, got := unlay([]byte(laid(t, stream, count, state...)), stream)
				if n != count || !slices.Equal(got, state) {
					t.Errorf("%d, %v, not %d, %v", n, got, count, state)
				}
			}
		}
	}
}

// P15.3: Load goes on from what is kept; so one that was laid by hand is seen in what it tells.
func TestGoesOn(t *testing.T) {
	w := four(t)
	for count, left := range map[int]int{1: 991, 2: 993, 3: 996, 4: 1000} {
		for _, name := range names("acc") {
			w.save(name, laid(t, "acc", count, number("left", 1000), number("mark", 1)))
			state, n, from, e := Load(w.s, w.r, w.l, "acc")
			if want := []api.Field{number("left", left), number("mark", 1)}; !slices.Equal(state, want) || n != 4 || from != count || e != api.OK {
				t.Errorf("Load: %v, %d, %d, %v, not %v, 4, %d", state, n, from, e, want, count)
			}
			if state, n, e := State(w.s, w.r, w.l, "acc"); !slices.Equal(state, []api.Field{number("left", 41)}) || n != 4 || e != api.OK {
				t.Errorf("State: %v, %d, %v", state, n, e)
			}
			w.s.Drop(name)
		}
	}
}

// P15.2: Take keeps State's answer, whatever is kept already.
func TestTakeKeepsState(t *testing.T) {
	for count := 1; count <= 3; count++ {
		w := four(t)
		w.save(names("acc")[0], laid(t, "acc", count, number("left", 1000)))
		w.take("acc")
		w.loads("acc", 4)
	}
}

// P15.2: of two that are whole the one of more events counts, under whichever name it lies.
func TestNewest(t *testing.T) {
	w := four(t)
	l := names("acc")
	at := func(count int) string {
		return laid(t, "acc", count, number("left", []int{0, 50, 48, 45, 41, 40, 39}[count]))
	}
	for _, c := range [][3]int{{1, 2, 2}, {3, 2, 3}, {4, 1, 4}, {3, 3, 3}, {4, 5, 4}, {5, 4, 4}, {6, 1, 1}, {2, 6, 2}, {5, 6, 0}, {5, 5, 0}} {
		w.save(l[0], at(c[0]))
		w.save(l[1], at(c[1]))
		w.loads("acc", c[2])
		w.reopen()
		w.loads("acc", c[2])
		// A Take goes in the place of the other one.
		x := w.again()
		x.take("acc")
		x.loads("acc", 4)
		if stays := x.lies(l[0]) == at(c[0]) && c[0] == c[2] || x.lies(l[1]) == at(c[1]) && c[1] == c[2]; stays != (c[2] != 0) {
			t.Errorf("%v: the newest one does not stay", c)
		}
	}
}

// P15.2: what is not whole counts for nothing: each of its beginnings, each of its ends, and it with something behind or ahead.
func TestTorn(t *testing.T) {
	w := four(t)
	whole := laid(t, "acc", 2, number("left", 48))
	w.counts(2, whole)
	for i := range len(whole) {
		w.counts(0, whole[:i])
		w.counts(0, whole[len(whole)-i:])
	}
	for _, more := range []string{"\x00", "&", "&a=1", "x", whole, whole[:4], strings.Repeat("\x00", 512)} {
		w.counts(0, whole+more)
		w.counts(0, more+whole)
	}
	w.is()
	w.counts(2, whole)
}

// P15.2: what has one bit turned, or two bytes exchanged, counts for nothing.
func TestTurned(t *testing.T) {
	w := four(t)
	whole := laid(t, "acc", 2, number("left", 48))
	name := names("acc")[0]
	for i := range len(whole) * 8 {
		b := []byte(whole)
		b[i/8] ^= 1 << (i % 8)
		w.save(name, string(b))
		w.loads("acc", 0)
	}
	for i := range len(whole) - 1 {
		b := []byte(whole)
		if b[i], b[i+1] = b[i+1], b[i]; string(b) == whole {
			continue
		}
		w.save(name, string(b))
		w.loads("acc", 0)
	}
	w.is()
}

// P15.2: any bytes, drawn, and noughts; then it is taken, and counts.
func TestAnyBytes(t *testing.T) {
	r := rand.New(rand.NewSource(1))
	w := four(t)
	w.counts(0, "")
	for _, n := range []int{1, 2, 3, 4, 5, 6, 7, 8, 9, 16, 100, 511, 512, 513, 8000} {
		w.counts(0, strings.Repeat("\x00", n))
		w.counts(0, strings.Repeat("\xff", n))
		for range 5 {
			b := make([]byte, n)
			r.Read(b)
			w.counts(0, string(b))
			w.counts(0, sealed(string(b[:n/2])))
		}
	}
	w.is()
	for range 3 {
		w.take("acc")
		w.loads("acc", 4)
		w.is()
	}
}

// P15.2: bytes with a right sum that are laid otherwise: parts that lack, that are too many, that are of no kind.
func TestSealed(t *testing.T) {
	w := four(t)
	w.counts(2, sealed(textOf("acc"), intOf(2), textOf("left=48"))) // this is how they are laid
	for _, data := range []string{
		sealed(), sealed(textOf("acc")), sealed(textOf("acc"), intOf(2)), sealed(intOf(2), textOf("left=48")),
		sealed(textOf("acc"), textOf("left=48")), sealed(textOf("acc"), intOf(2), textOf("left=48"), "\x00"),
		sealed(textOf("acc"), intOf(2), textOf("left=48"), textOf("")), sealed(textOf("acc"), intOf(2), "left=48"),
		sealed(textOf("acc"), intOf(2), textOf("left=48")[:5]), sealed("\x83\x00acc", intOf(2), textOf("left=48")),
		sealed(textOf("acc"), "\x84\x00", textOf("left=48")), sealed(textOf("acc"), intOf(2), "\x87\x00left=48"),
		sealed(textOf("acc"), strings.Repeat("\xff", 10), textOf("left=48")),
		sealed(textOf("acc"), intOf(2), textOf("left=048")), sealed(textOf("acc"), intOf(2), textOf("left")),
		sealed(textOf("acc"), intOf(2), textOf("Left=48")), sealed(textOf("acc"), intOf(2), textOf("left=48&left=48")),
		sealed(textOf("acc"), intOf(2), textOf("left='"+strings.Repeat("x", 201))), sealed(textOf("acc"), intOf(2), textOf("&")),
		sealed(textOf("acc"), intOf(2), textOf(strings.Repeat("a=1&", 1900)+"b=1")),
	} {
		w.counts(0, data)
	}
	w.is()
}

// P15.2: what is another stream's counts for nothing, whatever its name, if it lies under this one's names.
func TestAnotherStreams(t *testing.T) {
	w := four(t)
	for _, stream := range append(alike("stream"), "box", "ac", "accc", "acd", "Acc", "", "\x03acc", strings.Repeat("a", 60), strings.Repeat("a", 61)) {
		for count := 1; count <= 4; count++ {
			w.counts(0, laid(t, stream, count, number("left", 1)))
		}
	}
	// What Take has kept of the other one.
	for range 2 {
		w.take("box")
	}
	for _, name := range names("box") {
		w.counts(0, w.lies(name))
	}
	w.loads("box", 5)
	w.is()
}

// P15.2: what is of more events than there are counts for nothing, till there are so many; so does what is of none.
func TestMoreEvents(t *testing.T) {
	w := four(t)
	for _, count := range []int{5, 6, 63, 64, 1 << 31, 1 << 32, 1<<32 + 2, most - 1, most, 0, -1, -2, least, least + 2} {
		w.counts(0, laid(t, "acc", count, number("left", 1)))
	}
	w.is()
	// It is another store's, that has the same events and more.
	other := four(t)
	other.add("acc", taken(5), taken(6))
	other.take("acc")
	for _, name := range other.snaps() {
		w.counts(0, other.lies(name))
		w.add("acc", taken(5))
		w.counts(0, other.lies(name))
		w.add("acc", taken(6))
		w.counts(6, other.lies(name))
		w.add("acc", taken(7))
		w.counts(6, other.lies(name))
	}
	w.taken["acc"] = []int{6}
	w.is()
}

// P15.2: where one is not whole the elder one counts, and Take puts it right.
func TestElderCounts(t *testing.T) {
	for at := range 2 {
		w := four(t)
		l := names("acc")
		w.save(l[at], laid(t, "acc", 2, number("left", 48)))
		whole := laid(t, "acc", 3, number("left", 45))
		for i := range len(whole) {
			w.save(l[1-at], whole[:i])
			w.loads("acc", 2)
		}
		w.take("acc")
		w.loads("acc", 4)
		if w.lies(l[at]) != laid(t, "acc", 2, number("left", 48)) {
			t.Error("the elder one is gone")
		}
		w.s.Drop(l[1-at])
		w.loads("acc", 2)
	}
}
