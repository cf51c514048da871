package request

import (
	"math/rand"
	"strings"
	"testing"

	"cartulary/api"
)

// R1: any bytes, at once and behind heads: each call ends, and none panics.
func TestAnyBytes(t *testing.T) {
	r := rand.New(rand.NewSource(5))
	for n := range 600 {
		b := make([]byte, n)
		for range 5 {
			r.Read(b)
			for _, ahead := range []string{"", "GET /", "GET / HTTP/1.1\r\n", "GET / HTTP/1.1\r\nHost:", chunked(""), chunked("0|"), chunked("100|"), post("content-length: 300")} {
				agrees(t, ahead+string(b))
			}
		}
		for _, x := range []string{"\x00", "\xff", "\r", "\n", "\r\n", "/", "%", "?", ":", "0", " ", "G"} {
			agrees(t, strings.Repeat(x, n))
			agrees(t, "GET /"+strings.Repeat(x, n))
			agrees(t, chunked("")+strings.Repeat(x, n))
		}
	}
}

// R1: requests that were made by hand, with anything in them.
func TestByHand(t *testing.T) {
	for _, name := range []string{"", "\x00", "host", strings.Repeat("n", 100000)} {
		for _, r := range []api.Request{
			{}, {Method: name, Path: name, Query: name, Body: name, Close: true}, {Headers: make([]api.Header, 0, 5)}, {Headers: make([]api.Header, 3)},
			{Headers: []api.Header{{Name: name}, {Value: name}, {Name: name, Value: name}}},
		} {
			v, n := Get(r, name)
			want, count := "", 0
			for i := len(r.Headers) - 1; i >= 0; i-- {
				if r.Headers[i].Name == name {
					want = r.Headers[i].Value
					count++
				}
			}
			if v != want || n != count {
				t.Errorf("%q, %d, not %q, %d", short(v), n, short(want), count)
			}
		}
	}
}

// R2: beside what is no 200 all else is zero.
func TestZero(t *testing.T) {
	for _, text := range texts() {
		for i := range len(text) + 1 {
			r, n, s := Parse(text[:i])
			if s == 200 {
				continue
			}
			if n != 0 || r.Method != "" || r.Path != "" || r.Query != "" || len(r.Headers) != 0 || r.Body != "" || r.Close {
				t.Fatalf("%q: %+v, %d, %d", text[:i], r, n, s)
			}
		}
	}
}
