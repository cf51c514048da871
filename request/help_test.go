package request

import (
	"reflect"
	"strings"
	"testing"

	"cartulary/api"
)

// on is a text in which each | stands for CR LF.
func on(s string) string { return strings.ReplaceAll(s, "|", "\r\n") }

// get is a request with these header lines behind its Host; post likewise.
func get(lines ...string) string {
	return "GET /a HTTP/1.1\r\nHost: h\r\n" + headLines(lines)
}

func post(lines ...string) string {
	return "POST /c HTTP/1.1\r\nHost: h\r\n" + headLines(lines)
}

func headLines(lines []string) string {
	var b strings.Builder
	for _, l := range lines {
		b.WriteString(l + "\r\n")
	}
	return b.String() + "\r\n"
}

// chunked is a request with a body of chunks, which are told as they stand.
func chunked(body string) string { return post("Transfer-Encoding: chunked") + on(body) }

// same tells whether two requests are: a list without elements may be nil or not.
func same(a, b api.Request) bool {
	if len(a.Headers) == 0 && len(b.Headers) == 0 {
		a.Headers, b.Headers = nil, nil
	}
	return reflect.DeepEqual(a, b)
}

func short(s string) string {
	if len(s) > 600 {
		return s[:300] + " .. " + s[len(s)-200:]
	}
	return s
}

// agrees asks whether a text comes to what the plain account says; it is told.
func agrees(t testing.TB, text string) int {
	t.Helper()
	r, n, s := Parse(text)
	wr, wn, ws := plain(text)
	if s != ws || n != wn || !same(r, wr) {
		t.Fatalf("%q:\n%+v, %d, %d, not\n%+v, %d, %d", short(text), r, n, s, wr, wn, ws)
	}
	return s
}

// isRefused asks whether a text is refused so, and whether that is known with its last byte, and not ahead of that.
func isRefused(t testing.TB, text string, status int) {
	t.Helper()
	if s := agrees(t, text); s != status {
		t.Errorf("%q: %d, not %d", short(text), s, status)
	}
	if len(text) == 0 {
		return
	}
	if s := agrees(t, text[:len(text)-1]); s != api.StatusMore {
		t.Errorf("%q without its last byte: %d", short(text), s)
	}
}

// whole asks whether a text is a request, and not without its last byte; it is told.
func whole(t testing.TB, text string) api.Request {
	t.Helper()
	isRefused(t, text, api.StatusOK)
	r, n, s := Parse(text)
	if s == api.StatusOK && n != len(text) {
		t.Errorf("%q: %d bytes, not %d", short(text), n, len(text))
	}
	return r
}

// needsMore asks whether more is needed of a text.
func needsMore(t testing.TB, text string) {
	t.Helper()
	if s := agrees(t, text); s != api.StatusMore {
		t.Errorf("%q: %d, not 0", short(text), s)
	}
}

// The limits and the numbers.
func TestNumbers(t *testing.T) {
	for i, n := range []int{api.MaxLine, api.MaxHeaders, api.MaxBody, api.StatusMore, api.StatusOK, int(more), int(badRequest), int(tooLarge), int(headTooLarge), int(notImplemented)} {
		if want := []int{256, 16, 1000, 0, 200, 0, 400, 413, 431, 501}[i]; n != want {
			t.Errorf("%d: %d, not %d", i, n, want)
		}
	}
}
