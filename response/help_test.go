package response

import (
	"strings"
	"testing"

	"cartulary/api"
)

// on is a text in which each | stands for CR LF.
func on(s string) string { return strings.ReplaceAll(s, "|", "\r\n") }

func short(s string) string {
	if len(s) > 400 {
		return s[:200] + " .. " + s[len(s)-100:]
	}
	return s
}

// written is the text of a reply that may be.
func written(t testing.TB, r api.Reply) string {
	t.Helper()
	s, e := Write(r)
	if want := plainWrite(r); e != api.OK || s != want {
		t.Fatalf("%q, %v, not %q", short(s), e, short(want))
	}
	return s
}

// agrees asks whether a text is read as the plain account says; what it comes to is told.
func agrees(t testing.TB, text string) (api.Reply, int, api.Errno) {
	t.Helper()
	r, n, e := Read(text)
	wr, wn, we := plainRead(text)
	if e != we || n != wn || r != wr {
		t.Fatalf("%q: %d bytes, %d, %q, %v, %d, %v, not %d bytes, %d, %q, %v, %d, %v", short(text), len(text), r.Status, short(r.Body), r.Close, n, e, len(text), wr.Status, short(wr.Body), wr.Close, wn, we)
	}
	return r, n, e
}

// reads asks whether a text begins with a reply, of so many bytes.
func reads(t testing.TB, text string, want api.Reply, bytes int) {
	t.Helper()
	r, n, e := agrees(t, text)
	if e != api.OK || n != bytes || r != want {
		t.Errorf("%q: %d, %q, %v, %d, %v", short(text), r.Status, short(r.Body), r.Close, n, e)
	}
}

// isRefused asks whether no reply is read, for that reason.
func isRefused(t testing.TB, text string, why api.Errno) {
	t.Helper()
	if r, n, e := agrees(t, text); e != why || n != 0 || r != (api.Reply{}) {
		t.Errorf("%q: %d, %q, %v, %d, %v, not %v", short(text), r.Status, short(r.Body), r.Close, n, e, why)
	}
}

// breaks asks whether a text is none with its last byte, and the beginning of one without it.
func breaks(t testing.TB, text string) {
	t.Helper()
	isRefused(t, text[:len(text)-1], api.ErrReplyShort)
	isRefused(t, text, api.ErrReplyForm)
}

// bodies are of all kinds.
func bodies() []string {
	every := ""
	for b := range 256 {
		every += string([]byte{byte(b)})
	}
	head := on("HTTP/1.1 200 OK|Content-Length: 2||")
	return []string{"", "ok", "o", "\r\n", "\r", "\n", "\r\n\r\n", "\x00", "\xff\xfe", "é", every, head, head + "ok", "HTTP/1.1 ", "0", "9", "Connection: close\r\n\r\n", strings.Repeat("nine byte", 1), strings.Repeat("0123456789", 1), strings.Repeat("x", 99), strings.Repeat("x", 100), strings.Repeat("\r\n", 500), strings.Repeat("x", 9999), strings.Repeat("y", 10000)}
}

// replies are some of each status.
func replies() []api.Reply {
	var l []api.Reply
	for _, w := range plainWords {
		for i, body := range bodies() {
			l = append(l, api.Reply{Status: w.status, Body: body, Close: i%2 == 1}, api.Reply{Status: w.status, Body: body, Close: i%2 == 0})
		}
	}
	return l
}

// The limits and the numbers.
func TestNumbers(t *testing.T) {
	for i, n := range []int{api.MaxReply, int(api.OK), int(api.ErrReplyStatus), int(api.ErrReplyLong), int(api.ErrReplyShort), int(api.ErrReplyForm)} {
		if want := []int{100000, 0, 190, 191, 192, 193}[i]; n != want {
			t.Errorf("%d: %d, not %d", i, n, want)
		}
	}
}
