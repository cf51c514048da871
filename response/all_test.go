package response

import (
	"math/rand"
	"slices"
	"strings"
	"testing"

	"cartulary/api"
)

// tells asks whether a text begins with these replies.
func tells(t testing.TB, text string, want []api.Reply, bytes int) {
	t.Helper()
	l, n := All(text)
	if n != bytes || !slices.Equal(l, want) {
		t.Errorf("%q: %d of them, %d bytes, not %d, %d", short(text), len(l), n, len(want), bytes)
	}
	if l, k := plainAll(text); k != n || !slices.Equal(l, want) {
		t.Errorf("%q: %d of them, %d bytes, not %d, %d", short(text), len(want), bytes, len(l), k)
	}
}

// none may stand behind the last reply.
func none(t testing.TB) []string {
	s := written(t, api.Reply{Status: 413, Body: "abc", Close: true})
	l := []string{"", "x", "\r\n", "\x00", "HTTP/1.1 201 Created", strings.ToLower(s), "\r\n" + s}
	for i := range len(s) {
		l = append(l, s[:i])
	}
	return append(l, s[:5]+s, s[1:]+s, s[:len(s)-1]+strings.Replace(s[len(s):], "c", "", 1))
}

// P19.4: all that stand one behind the other, up to the first thing that is none.
func TestAll(t *testing.T) {
	tells(t, "", nil, 0)
	all := replies()
	for from := 0; from < len(all); from += 7 {
		text := ""
		for k := range 6 {
			l := all[from:min(from+k, len(all))]
			text = ""
			for _, r := range l {
				text += written(t, r)
			}
			tells(t, text, l, len(text))
		}
		for _, x := range none(t) {
			tells(t, text+x, all[from:min(from+5, len(all))], len(text))
		}
	}
	for _, x := range none(t) {
		tells(t, x, nil, 0)
	}
}

// P19.4: what is behind the first thing that is none isn't told, also if it is a reply.
func TestAllStops(t *testing.T) {
	a, b := api.Reply{Status: 200, Body: "a"}, api.Reply{Status: 404, Close: true}
	s, c := written(t, a), written(t, b)
	for _, x := range []string{"x", "\r\n", s[:5], s[:len(s)-2] + "x", "HTTP/1.1 201 Created\r\nContent-Length: 0\r\n\r\n"} {
		tells(t, s+c+x+s+c, []api.Reply{a, b}, len(s+c))
		tells(t, s+x+c, []api.Reply{a}, len(s))
	}
	tells(t, s+c+s+c, []api.Reply{a, b, a, b}, 2*len(s+c))
	// What closes doesn't end them.
	tells(t, c+c+s, []api.Reply{b, b, a}, len(c+c+s))
}

// P19.4: many, and great ones.
func TestMany(t *testing.T) {
	r := api.Reply{Status: 200, Body: "ok"}
	s := written(t, r)
	l, n := All(strings.Repeat(s, 50000) + s[:39])
	if len(l) != 50000 || n != 50000*40 || slices.ContainsFunc(l, func(x api.Reply) bool { return x != r }) {
		t.Errorf("%d of them, %d bytes", len(l), n)
	}
	r.Body = strings.Repeat("b", 100000)
	s = written(t, r)
	l, n = All(strings.Repeat(s, 300))
	if len(l) != 300 || n != 300*len(s) || slices.ContainsFunc(l, func(x api.Reply) bool { return x != r }) {
		t.Errorf("%d of them, %d bytes", len(l), n)
	}
}

// drawn is a reply.
func drawn(r *rand.Rand) api.Reply {
	body := make([]byte, r.Intn([]int{1, 3, 12, 300, 20000}[r.Intn(5)]))
	r.Read(body)
	if r.Intn(2) == 0 {
		for i := range body {
			body[i] = "\r\n0 HTP/1.9:o"[r.Intn(13)]
		}
	}
	return api.Reply{Status: plainWords[r.Intn(len(plainWords))].status, Body: string(body), Close: r.Intn(2) == 0}
}

// P19.3 to P19.5: drawn replies, one behind the other, and what comes of them when they are cut, or when some of their bytes change.
func TestDrawn(t *testing.T) {
	r := rand.New(rand.NewSource(19))
	for range 3000 {
		var l []api.Reply
		text := ""
		for range r.Intn(6) {
			x := drawn(r)
			l = append(l, x)
			text += written(t, x)
		}
		tells(t, text, l, len(text))
		if len(text) == 0 {
			continue
		}
		cut := text[:r.Intn(len(text))]
		agrees(t, cut)
		agrees(t, text[r.Intn(len(text)):])
		b := []byte(text)
		for range 1 + r.Intn(3) {
			at := r.Intn(len(b))
			if r.Intn(2) == 0 {
				at = r.Intn(min(len(b), 80))
			}
			b[at] = []byte{byte(r.Intn(256)), text[r.Intn(len(text))], '\r', '\n', '0', '1', ' '}[r.Intn(7)]
		}
		for _, x := range []string{cut, string(b)} {
			agrees(t, x)
			got, n := All(x)
			want, k := plainAll(x)
			if n != k || !slices.Equal(got, want) {
				t.Fatalf("%q: %d of them, %d bytes, not %d, %d", short(x), len(got), n, len(want), k)
			}
		}
	}
}
