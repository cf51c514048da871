package request

import (
	"slices"
	"strings"
	"sync"
	"testing"
	"unsafe"

	"cartulary/api"
)

// lent is a text whose bytes can be written over.
func lent(s string) (string, func()) {
	b := []byte(s)
	return unsafe.String(unsafe.SliceData(b), len(b)), func() {
		for i := range b {
			b[i] = '!'
		}
	}
}

// copied is a request in memory of its own.
func copied(r api.Request) api.Request {
	c := r
	c.Method, c.Path, c.Query, c.Body = strings.Clone(r.Method), strings.Clone(r.Path), strings.Clone(r.Query), strings.Clone(r.Body)
	c.Headers = nil
	for _, h := range r.Headers {
		c.Headers = append(c.Headers, api.Header{Name: strings.Clone(h.Name), Value: strings.Clone(h.Value)})
	}
	return c
}

// R4: what is answered does not hang on the text any more, nor the text on it.
func TestParseApart(t *testing.T) {
	for _, text := range texts() {
		s, scrawl := lent(text + "and anything")
		r, n, _ := Parse(s)
		was := copied(r)
		again, m, _ := Parse(s)
		if s != text+"and anything" || n != m {
			t.Errorf("%q", s)
		}
		scrawl()
		if !same(r, was) || !same(again, was) {
			t.Errorf("%+v is %+v", was, r)
		}
		// The lists of two answers are two, their spare room too.
		l := r.Headers[:cap(r.Headers)]
		for i := range l {
			l[i] = api.Header{Name: "!", Value: "!"}
		}
		if !same(again, was) {
			t.Errorf("%+v is %+v", was, again)
		}
	}
}

// R4: likewise of Get: it changes nothing, and its answer hangs on nothing.
func TestGetApart(t *testing.T) {
	name, scrawlName := lent("host")
	value, scrawlValue := lent("value")
	l := make([]api.Header, 0, 9)
	l = append(l, api.Header{Name: "x", Value: "y"}, api.Header{Name: name, Value: value}, api.Header{Name: "host", Value: "z"})
	spare := l[:9]
	spare[5] = api.Header{Name: "host", Value: "spare"}
	r := api.Request{Headers: l}
	v, n := Get(r, name)
	if v != "value" || n != 2 || spare[5].Value != "spare" || !slices.Equal(r.Headers, []api.Header{{Name: "x", Value: "y"}, {Name: "host", Value: "value"}, {Name: "host", Value: "z"}}) {
		t.Errorf("%q, %d, %+v", v, n, spare)
	}
	scrawlName()
	scrawlValue()
	if v != "value" {
		t.Errorf("%q", v)
	}
}

// R5: the same text comes to the same, whatever was read between, and by however many at once; wherever it stands in memory.
func TestSameAgain(t *testing.T) {
	type answer struct {
		r    api.Request
		n, s int
	}
	var first []answer
	for _, text := range texts() {
		r, n, s := Parse(text)
		first = append(first, answer{r, n, s})
	}
	var all sync.WaitGroup
	for range 8 {
		all.Add(1)
		go func() {
			defer all.Done()
			for round := range 20 {
				for i, text := range texts() {
					placed := strings.Repeat("x", round) + text
					r, n, s := Parse(placed[round:])
					if want := first[i]; n != want.n || s != want.s || !same(r, want.r) {
						t.Errorf("%q: %+v, %d, %d, not %+v", text, r, n, s, want)
					}
				}
			}
		}()
	}
	all.Wait()
}

// What is read hangs on how long the request is, not on what stands behind it: neither in time nor in room.
func TestBehindIsNotRead(t *testing.T) {
	text := texts()[2] + strings.Repeat("x", 1<<26)
	if n := testing.AllocsPerRun(10, func() { Parse(text) }); n > 100 {
		t.Errorf("%v", n)
	}
	for range 20000 {
		if _, n, s := Parse(text); s != 200 || n != len(texts()[2]) {
			t.Fatal(n, s)
		}
	}
	for _, ahead := range []string{"", get()[:len(get())-2], chunked(""), chunked("0|")} {
		for range 2000 {
			if _, _, s := Parse(ahead + strings.Repeat("x", 1<<10)); s != 431 {
				t.Fatal(s)
			}
		}
	}
}
