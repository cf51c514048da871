package segment

import (
	"math/rand"
	"slices"
	"testing"

	"cartulary/api"
)

// scrawl writes over bytes, and over their spare room.
func scrawl(b []byte) {
	b = b[:cap(b)]
	for i := range b {
		b[i] = '!'
	}
}

// R4: frames that are handed in, their bytes and the list, are neither changed nor kept, their spare room included.
func TestHandedIn(t *testing.T) {
	w := begin(t, 200)
	for _, sizes := range [][]int{{}, {0}, {1}, {2000}, {3, 0, 500}, {2000, 2000, 2000, 2000, 2000}, {1, 2001}} {
		want := frames(sizes...)
		list := make([]api.Frame, 0, len(want)+3)
		var rooms [][]byte
		for _, f := range want {
			room := append(slices.Clone(f.Data), "spare room"...)
			rooms = append(rooms, room)
			list = append(list, api.Frame{Kind: f.Kind, Data: room[:len(f.Data)]})
		}
		spare := list[len(list):cap(list)]
		for i := range spare {
			spare[i] = frame(i, 5)
		}
		wasSpare := tellFrames(spare)
		e := w.l.Append(list)
		if e != w.answer(want) {
			t.Errorf("%v: %v", sizes, e)
		}
		w.done(want, e)
		if tellFrames(list) != tellFrames(want) || tellFrames(spare) != wasSpare {
			t.Errorf("%v: they are changed", sizes)
		}
		for i, room := range rooms {
			if string(room) != string(want[i].Data)+"spare room" {
				t.Errorf("%v: the bytes of the frame %d are changed", sizes, i)
			}
			scrawl(room)
		}
		clear(list[:cap(list)])
		w.is()
	}
	w.reopen()
	w.is()
}

// R4: frames of one Append that are one memory are apart from then on.
func TestHandedInTwice(t *testing.T) {
	w := begin(t, 64)
	f := frame(1, 20)
	w.append(f, f, f)
	all := collected(t, w.l)
	scrawl(all[0].Data)
	if string(all[1].Data) != text(1, 20) || string(all[2].Data) != text(1, 20) {
		t.Error("two frames are one")
	}
	w.is()
}

// R4: what is answered is the asker's own, its spare room too: frames of a log that was appended to, and of one that was opened.
func TestAnswered(t *testing.T) {
	w := grown(t)
	for range 2 {
		all, again := collected(t, w.l), collected(t, w.l)
		for _, f := range all {
			scrawl(f.Data)
		}
		if tellFrames(again) != tellFrames(w.frames) {
			t.Error("two answers are one")
		}
		w.is()
		for i, f := range again { // frames of one answer
			scrawl(f.Data)
			if tellFrames(again[i+1:]) != tellFrames(w.frames[i+1:]) {
				t.Errorf("the frame %d has memory of one behind it", i)
			}
		}
		l, more := w.l.Segments(), w.l.Segments()
		l = l[:cap(l)]
		for i := range l {
			l[i] = -1
		}
		if !slices.Equal(more, w.sizes) {
			t.Errorf("two answers are one: %v", more)
		}
		w.is()
		w.append(frame(3, 30))
		w.is()
		w.reopen()
	}
}

// R4: what was answered does not change when the log goes on.
func TestAnsweredStays(t *testing.T) {
	w := grown(t)
	all, sizes := collected(t, w.l), w.l.Segments()
	was, wasSizes := tellFrames(w.frames), slices.Clone(w.sizes)
	w.append(frames(5, 5, 2000, 2000)...)
	if tellFrames(all) != was || !slices.Equal(sizes, wasSizes) {
		t.Error("it changes")
	}
}

// R1: a copy that was made by hand is the same log.
func TestCopyByHand(t *testing.T) {
	r := rand.New(rand.NewSource(9))
	w := begin(t, 512)
	l := w.l
	hand := *l
	for range 150 {
		w.l = []*Log{l, &hand}[r.Intn(2)]
		w.append(drawnFrames(r)...)
		w.is()
	}
	w.reopen()
	w.is()
}
