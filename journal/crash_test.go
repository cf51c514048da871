package journal

import (
	"math/rand"
	"strconv"
	"testing"

	"cartulary/api"
	"cartulary/blockdev"
)

// committing opens a log while the fuse is off, puts and commits, and lets the Commit alone be stopped.
func committing(t *testing.T, puts, ones []one) func(*blockdev.Device) api.Errno {
	return func(d *blockdev.Device) api.Errno {
		t.Helper()
		fuse := left(d)
		d.Fuse(-1)
		l := open(t, d)
		for _, x := range puts {
			put(t, l, x.n, x.c)
		}
		d.Fuse(fuse)
		return l.Commit(writes(ones))
	}
}

// left is what is left of a device's fuse.
func left(d *blockdev.Device) int {
	c := d.Copy()
	for k := range 2000 {
		if c.Flush() != api.OK {
			return k
		}
	}
	return -1
}

// stopCommit lets a Commit stop at each operation, with each crash behind it, and answers the devices that are left of all that, unlike one another, with what was told of each, and the one on which it went well.
func stopCommit(t *testing.T, d *blockdev.Device, was state, ones []one, opens int) (map[*blockdev.Device]string, *blockdev.Device) {
	t.Helper()
	next := with(was.last(), ones...)
	down, well := stops(t, d, committing(t, was.puts, ones))
	for _, x := range crashes(well) {
		stays(t, x, next, 1)
	}
	all, seen := map[*blockdev.Device]string{}, known{}
	for _, x := range down {
		for _, y := range crashes(x) {
			if seen.has(t, y) {
				continue
			}
			got := told(t, y)
			if got != next && !was.may(got) {
				t.Fatalf("a Commit of %v over %q, puts %v, stopped: %q", ones, was.sure, was.puts, got)
			}
			staysAmong(t, seen, y, got, opens)
			all[y] = got
		}
	}
	return all, well
}

// P4.4: Commits that stop at each operation, with each crash, and behind it Opens that stop at each operation, with each crash, again and again.
func TestCommitsThatStop(t *testing.T) {
	for i, c := range []struct{ first, puts, ones []one }{
		{nil, nil, []one{{0, 'a'}}},
		{nil, nil, []one{{0, 'a'}, {43, 'b'}}},
		{[]one{{0, 'x'}, {1, 'x'}}, nil, []one{{1, 'a'}, {0, 'b'}}},
		{[]one{{0, 'x'}, {1, 'x'}}, []one{{0, 'p'}}, []one{{0, 'a'}, {1, 'b'}}},
		{[]one{{0, 'x'}}, []one{{0, 'p'}, {0, 'q'}}, []one{{0, 'a'}, {5, 'b'}}},
		{nil, []one{{7, 'p'}}, []one{{0, 'a'}, {5, 'b'}}},
		{nil, nil, []one{{3, 'a'}, {3, 'b'}}},
		{[]one{{3, 'x'}}, []one{{3, 'p'}}, []one{{3, 'a'}, {3, 'b'}, {4, 'c'}}},
	} {
		t.Run(strconv.Itoa(i), func(t *testing.T) {
			d := laid(t, 64)
			commit(t, open(t, d), c.first...)
			was := state{with(noughts(44), c.first...), c.puts}
			next, seen := with(was.last(), c.ones...), map[bool]int{}
			all, _ := stopCommit(t, d, was, c.ones, 2)
			for _, got := range all {
				seen[got == next]++
			}
			if seen[true] == 0 || seen[false] == 0 {
				t.Errorf("all and none: one of these is never left: %v", seen)
			}
		})
	}
}

// P4.4: a Commit of nothing that stops, behind puts.
func TestEmptyCommitsThatStop(t *testing.T) {
	d := laid(t, 64)
	commit(t, open(t, d), one{0, 'x'}, one{1, 'x'})
	was := state{with(noughts(44), one{0, 'x'}, one{1, 'x'}), []one{{0, 'p'}, {2, 'p'}, {0, 'q'}}}
	seen := map[string]int{}
	all, _ := stopCommit(t, d, was, nil, 2)
	for _, got := range all {
		seen[got]++
	}
	if len(seen) != 6 {
		t.Errorf("%d states are left, not 3 of the one block with 2 of the other", len(seen))
	}
}

// P4.4: Commits of 16 blocks, where puts are pending of others and of the same.
func TestGreatCommitsThatStop(t *testing.T) {
	d := laid(t, 64)
	var first, puts, ones []one
	for i := range 16 {
		first = append(first, one{i, 'x'})
		ones = append(ones, one{43 - i*2, byte('a' + i)})
	}
	for i := range 20 {
		puts = append(puts, one{i * 2, 'p'}, one{i * 2, 'q'})
	}
	commit(t, open(t, d), first...)
	stopCommit(t, d, state{with(noughts(44), first...), puts}, ones, 1)
	stopCommit(t, d, state{with(noughts(44), first...), nil}, ones, 1)
}

// P4.4: what a crash has thrown away never comes back, whatever is committed behind it, and wherever that stops.
func TestThrownAway(t *testing.T) {
	d := laid(t, 64)
	commit(t, open(t, d), one{0, 'x'}, one{1, 'x'}, one{2, 'x'})
	was := state{sure: with(noughts(44), one{0, 'x'}, one{1, 'x'}, one{2, 'x'})}
	for i, behind := range [][][]one{
		{{{0, 'a'}, {1, 'b'}}, {{1, 'c'}, {2, 'd'}}, {{0, 'e'}, {2, 'f'}}},
		{{{0, 'a'}, {1, 'b'}, {2, 'c'}}, {{3, 'd'}}, {{4, 'e'}, {5, 'f'}}},
		{{{0, 'a'}}, {{0, 'b'}, {1, 'c'}, {2, 'd'}}, {{2, 'e'}}},
		{{{0, 'a'}, {1, 'b'}}, {{0, 'a'}, {2, 'b'}}, {{1, 'a'}, {2, 'b'}}},
	} {
		t.Run(strconv.Itoa(i), func(t *testing.T) { stopAll(t, d, was, behind) })
	}
}

// stopAll commits one list behind the other, of which each stops; what is told behind each crash is what the next one begins with.
func stopAll(t *testing.T, d *blockdev.Device, was state, behind [][]one) {
	t.Helper()
	if len(behind) == 0 {
		return
	}
	all, well := stopCommit(t, d, was, behind[0], 0)
	all[well] = with(was.last(), behind[0]...)
	for x, got := range all {
		stopAll(t, x, state{sure: got}, behind[1:])
	}
}

// P4.4: puts behind a Commit that went well, and behind one that an Open brought to its end: no Open undoes what is durable.
func TestPutsBehindCommits(t *testing.T) {
	d := laid(t, 64)
	ones := []one{{0, 'a'}, {1, 'b'}}
	all, well := stopCommit(t, d, state{sure: noughts(44)}, ones, 1)
	all[well] = with(noughts(44), ones...)
	for x, got := range all {
		l := open(t, x)
		put(t, l, 0, 'p')
		put(t, l, 2, 'q')
		was := state{got, []one{{0, 'p'}, {2, 'q'}}}
		for _, y := range crashes(x) {
			if now := told(t, y); !was.may(now) {
				t.Fatalf("puts over %q: %q", got, now)
			}
			stays(t, y, told(t, y), 1)
		}
		commit(t, l)
		for _, y := range crashes(x) {
			stays(t, y, was.last(), 1)
		}
	}
}

// P4.3: what was put is durable behind the next Commit, also of nothing, whatever a crash keeps.
func TestDurable(t *testing.T) {
	for _, ones := range [][]one{nil, {{9, 'c'}}, {{0, 'c'}, {1, 'd'}}, {{0, 'c'}, {9, 'd'}, {0, 'e'}}} {
		d := laid(t, 64)
		l := open(t, d)
		commit(t, l, one{0, 'x'}, one{3, 'x'})
		for i := range 3 {
			put(t, l, 0, byte('p'+i))
			put(t, l, 43, byte('q'+i))
			want := with(look(t, l), ones...)
			commit(t, l, ones...)
			tells(t, l, want)
			for _, x := range crashes(d) {
				stays(t, x, want, 1)
			}
			put(t, l, 3, 'r')
			for _, x := range crashes(d) {
				if got := told(t, x); got != want && got != with(want, one{3, 'r'}) {
					t.Errorf("%q", got)
				}
			}
			l = open(t, d)
		}
	}
}

// P4.4: Puts and Reads that stop change nothing but what a put may.
func TestPutsThatStop(t *testing.T) {
	d := laid(t, 64)
	commit(t, open(t, d), one{0, 'x'})
	for k := range 4 {
		c := d.Copy()
		l := open(t, c)
		put(t, l, 1, 'p')
		c.Fuse(k)
		was := state{with(noughts(44), one{0, 'x'}), []one{{1, 'p'}}}
		for i := range 4 {
			if i%2 == 0 {
				l.Read(0)
			} else if l.Put(0, full(byte('q'+i))) == api.OK {
				was.puts = append(was.puts, one{0, byte('q' + i)})
			}
		}
		for _, x := range crashes(c) {
			if got := told(t, x); !was.may(got) {
				t.Errorf("%q", got)
			}
			stays(t, x, told(t, x), 1)
		}
	}
}

// P4.4: behind a Format that stops there is a log, of what was there or of noughts, or none; and a new Format lays one.
func TestFormatsThatStop(t *testing.T) {
	old := laid(t, 64)
	commit(t, open(t, old), one{0, 'x'}, one{43, 'y'})
	for _, d := range []*blockdev.Device{made(t, 64), old, laid(t, 64)} {
		seen := map[string]int{}
		down, _ := stops(t, d, Format)
		for _, x := range down {
			for _, y := range crashes(x) {
				seen[stoppedFormat(t, y)]++
			}
		}
		for s := range seen {
			if s != "none" && s != noughts(44) && s != with(noughts(44), one{0, 'x'}, one{43, 'y'}) {
				t.Errorf("%q", s)
			}
		}
		if seen["none"] == 0 || seen[noughts(44)] == 0 {
			t.Errorf("none and a new log: one of these is never left: %d states", len(seen))
		}
	}
}

// stoppedFormat is what a Format has left that stopped.
func stoppedFormat(t *testing.T, d *blockdev.Device) string {
	t.Helper()
	got := "none"
	if l, e := Open(d.Copy()); e == api.OK {
		got = look(t, l)
		stays(t, d, got, 1)
		c := d.Copy()
		commit(t, open(t, c), one{0, 'n'}, one{20, 'n'})
		c.Crash(nil)
		stays(t, c, with(got, one{0, 'n'}, one{20, 'n'}), 0)
	} else if l != nil || e != api.ErrLogNone {
		t.Errorf("Open behind a Format that stopped: %v", e)
	}
	if e := Format(d); e != api.OK {
		t.Errorf("Format behind one that stopped: %v", e)
	}
	stays(t, d, noughts(44), 0)
	return got
}

// P4.1: a Format over a log whose Format or Commit stopped, and which stops itself.
func TestFormatsBehindStops(t *testing.T) {
	d := laid(t, 64)
	ones := []one{{0, 'a'}, {43, 'b'}}
	all, _ := stopCommit(t, d, state{sure: noughts(44)}, ones, 0)
	for x, was := range all {
		down, _ := stops(t, x, Format)
		for i, y := range down {
			if i%5 != 0 && i < len(down)-6 {
				continue
			}
			y.Crash([]int{1, 0, 1})
			if got := stoppedFormat(t, y); got != "none" && got != was && got != noughts(44) {
				t.Errorf("a Format over %q stopped: %q", was, got)
			}
		}
	}
}

// All promises at once: a log, told by the chapter's words, of what is done at random, with stops and crashes at random.
func TestRandom(t *testing.T) {
	for seed := range 400 {
		r := rand.New(rand.NewSource(int64(seed)))
		d := laid(t, 64)
		now := state{sure: noughts(44)}
		l := open(t, d)
		for range 150 {
			if r.Intn(6) == 0 {
				d.Fuse(r.Intn(60))
			}
			var ones []one // of the commit that was under way
			e := api.OK
			switch n := r.Intn(10); {
			case n < 4:
				x := one{r.Intn(44), byte(r.Intn(256))}
				if e = l.Put(x.n, full(x.c)); e == api.OK {
					now.puts = append(now.puts, x)
				}
			case n < 7:
				ones = some(r)
				if e = l.Commit(writes(ones)); e == api.OK {
					now = state{sure: with(now.last(), ones...)}
				}
			case n < 9:
				var b []byte
				k := r.Intn(44)
				if b, e = l.Read(k); e == api.OK && b[0] != now.last()[k] {
					t.Fatalf("seed %d: block %d is %d, not %d", seed, k, b[0], now.last()[k])
				}
			}
			if e == api.OK && r.Intn(12) > 0 {
				continue
			}
			if e != api.OK && (e != api.ErrDown || !d.Down()) {
				t.Fatalf("seed %d: %v", seed, e)
			}
			l = reopen(t, r, d)
			got := look(t, l)
			if !now.may(got) && (e == api.OK || got != with(now.last(), ones...)) {
				t.Fatalf("seed %d: %q behind a crash", seed, got)
			}
			now = state{sure: got}
		}
	}
}

// some are blocks of a commit.
func some(r *rand.Rand) []one {
	var ones []one
	for range r.Intn(17) {
		ones = append(ones, one{r.Intn(44), byte(r.Intn(256))})
	}
	return ones
}

// reopen opens a log behind a crash, and behind others while it is opened.
func reopen(t *testing.T, r *rand.Rand, d *blockdev.Device) *Log {
	t.Helper()
	for {
		picks := make([]int, len(d.Pending()))
		for i := range picks {
			picks[i] = r.Intn(1000)
		}
		d.Crash(picks)
		d.Fuse(r.Intn(60) - 10)
		l, e := Open(d)
		if e == api.OK {
			d.Fuse(-1)
			return l
		}
		if e != api.ErrDown {
			t.Fatalf("Open: %v", e)
		}
	}
}
