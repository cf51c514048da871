package response

import (
	"slices"
	"strings"
	"sync"
	"testing"
	"unsafe"

	"cartulary/api"
)

// lent is a text whose bytes can be written over.
func lent(s string) (string, func()) {
	b := []byte(s)
	return unsafe.String(unsafe.SliceData(b), len(b)), func() {
		for i := range b {
			b[i] = '!'
		}
	}
}

// R4: what is written does not hang on the body any more, and the body is as it was.
func TestWriteApart(t *testing.T) {
	for _, r := range replies() {
		want := plainWrite(r)
		body, scrawl := lent(r.Body)
		s, _ := Write(api.Reply{Status: r.Status, Body: body, Close: r.Close})
		if body != r.Body {
			t.Errorf("%q", short(body))
		}
		scrawl()
		if s != want {
			t.Errorf("%q, not %q", short(s), short(want))
		}
	}
}

// R4: what is read does not hang on the text any more, and the text is as it was.
func TestReadApart(t *testing.T) {
	for _, r := range replies() {
		want := plainWrite(r) + "behind"
		text, scrawl := lent(want)
		got, _, _ := Read(text)
		if text != want {
			t.Errorf("%q", short(text))
		}
		scrawl()
		if got != r {
			t.Errorf("%q, not %q", short(got.Body), short(r.Body))
		}
	}
}

// R4: likewise of all; and the lists of two answers share nothing, their spare room neither.
func TestAllApart(t *testing.T) {
	l := replies()[:101]
	was := ""
	for _, r := range l {
		was += plainWrite(r)
	}
	text, scrawl := lent(was)
	got, _ := All(text)
	again, _ := All(text)
	if text != was {
		t.Errorf("%q", short(text))
	}
	scrawl()
	if !slices.Equal(got, l) || !slices.Equal(again, l) {
		t.Error("the replies are others")
	}
	room := got[:cap(got)]
	for i := range room {
		room[i] = api.Reply{Status: 1, Body: "!"}
	}
	if !slices.Equal(again, l) {
		t.Error("the replies are others")
	}
	third, _ := All(was)
	if !slices.Equal(third, l) {
		t.Error("the replies are others")
	}
}

// R4: no two bodies of one answer share any bytes.
func TestBodiesApart(t *testing.T) {
	r := api.Reply{Status: 200, Body: "a body"}
	l, _ := All(strings.Repeat(plainWrite(r), 3))
	b := unsafe.Slice(unsafe.StringData(l[1].Body), len(l[1].Body))
	for i := range b {
		b[i] = '!'
	}
	if l[0] != r || l[2] != r {
		t.Errorf("%+v", l)
	}
}

// R5: the same comes to the same, whatever was asked between, and by however many at once; wherever it stands in memory.
func TestSameAgain(t *testing.T) {
	var all sync.WaitGroup
	for range 8 {
		all.Add(1)
		go func() {
			defer all.Done()
			for round := range 3 {
				for _, r := range replies() {
					want := plainWrite(r)
					s, e := Write(r)
					if s != want || e != api.OK {
						t.Errorf("%q, %v", short(s), e)
					}
					placed := strings.Repeat("x", round) + s
					got, n, e := Read(placed[round:])
					if got != r || n != len(want) || e != api.OK {
						t.Errorf("%q: %d, %v", short(s), n, e)
					}
					if Reason(r.Status) != plainReason(r.Status) {
						t.Errorf("%d", r.Status)
					}
				}
			}
		}()
	}
	all.Wait()
}

// What is read hangs on how long the reply is, not on what stands behind it.
func TestBehindIsNotRead(t *testing.T) {
	s := plainWrite(api.Reply{Status: 422, Body: "error=136"})
	for _, text := range []string{s + strings.Repeat("x", 1<<24), "HTTP/1.1 200 OK\r\nContent-Length: " + strings.Repeat("9", 1<<24), "HTTP/1.1 201" + strings.Repeat("\r", 1<<24)} {
		_, want, _ := Read(text)
		for range 20000 {
			if _, n, _ := Read(text); n != want {
				t.Fatal(n)
			}
		}
	}
}
