package response

import (
	"math"
	"strings"
	"testing"

	"cartulary/api"
)

// P19.1: the reason of each status, and of no other one.
func TestReason(t *testing.T) {
	for status, want := range map[int]string{
		200: "OK", 400: "Bad Request", 404: "Not Found", 405: "Method Not Allowed", 409: "Conflict", 413: "Content Too Large", 422: "Unprocessable Content", 431: "Request Header Fields Too Large", 501: "Not Implemented", 503: "Service Unavailable", 507: "Insufficient Storage",
	} {
		if s := Reason(status); s != want {
			t.Errorf("%d: %q", status, s)
		}
	}
	there := 0
	for status := -2000; status <= 70000; status++ {
		s := Reason(status)
		if s != plainReason(status) {
			t.Errorf("%d: %q", status, s)
		}
		if s != "" {
			there++
		}
	}
	if there != 11 {
		t.Errorf("%d", there)
	}
	for _, status := range noStatus() {
		if s := Reason(status); s != "" {
			t.Errorf("%d: %q", status, s)
		}
	}
}

func noStatus() []int {
	l := []int{0, 1, -1, 2, 20, 100, 199, 201, 204, 299, 300, 399, 401, 403, 410, 412, 414, 418, 421, 430, 432, 499, 500, 502, 504, 508, 2000, -200, -404, 1<<16 + 200, 1<<32 + 200, math.MaxInt, math.MinInt, math.MaxInt32, math.MinInt32, math.MinInt + 200, math.MaxInt - 200}
	for _, w := range plainWords {
		l = append(l, -w.status, w.status*10, w.status/10, w.status+1<<8, w.status+1<<16, w.status+1<<32)
	}
	return l
}

// P19.2: each status, with a body of each kind, closing and not.
func TestWrite(t *testing.T) {
	for _, r := range replies() {
		written(t, r)
	}
	for r, want := range map[api.Reply]string{
		{Status: 200, Body: "ok"}:        "HTTP/1.1 200 OK|Content-Length: 2||ok",
		{Status: 200}:                    "HTTP/1.1 200 OK|Content-Length: 0||",
		{Status: 200, Close: true}:       "HTTP/1.1 200 OK|Content-Length: 0|Connection: close||",
		{Status: 400, Close: true}:       "HTTP/1.1 400 Bad Request|Content-Length: 0|Connection: close||",
		{Status: 404}:                    "HTTP/1.1 404 Not Found|Content-Length: 0||",
		{Status: 405}:                    "HTTP/1.1 405 Method Not Allowed|Content-Length: 0||",
		{Status: 409}:                    "HTTP/1.1 409 Conflict|Content-Length: 0||",
		{Status: 413, Close: true}:       "HTTP/1.1 413 Content Too Large|Content-Length: 0|Connection: close||",
		{Status: 422, Body: "error=136"}: "HTTP/1.1 422 Unprocessable Content|Content-Length: 9||error=136",
		{Status: 422, Body: "reason='empty", Close: true}: "HTTP/1.1 422 Unprocessable Content|Content-Length: 13|Connection: close||reason='empty",
		{Status: 431, Body: "a|b"}:                        "HTTP/1.1 431 Request Header Fields Too Large|Content-Length: 3||a\x00b",
		{Status: 501, Body: "\r\n"}:                       "HTTP/1.1 501 Not Implemented|Content-Length: 2||\r\n",
		{Status: 503}:                                     "HTTP/1.1 503 Service Unavailable|Content-Length: 0||",
		{Status: 507, Body: "0123456789"}:                 "HTTP/1.1 507 Insufficient Storage|Content-Length: 10||0123456789",
	} {
		s, e := Write(r)
		if want = strings.ReplaceAll(on(want), "\x00", "|"); s != want || e != api.OK {
			t.Errorf("%+v: %q, %v", r, s, e)
		}
	}
}

// P19.2: bodies up to the limit, and none beyond it.
func TestWriteLong(t *testing.T) {
	for _, n := range []int{0, 1, 9, 10, 11, 99, 100, 999, 1000, 9999, 10000, 32767, 32768, 65535, 65536, 99998, 99999, 100000} {
		for _, closes := range []bool{false, true} {
			s := written(t, api.Reply{Status: 200, Body: strings.Repeat("b", n), Close: closes})
			if !strings.HasSuffix(s, strings.Repeat("b", n)) {
				t.Errorf("%d: %q", n, short(s))
			}
		}
	}
	for _, n := range []int{100001, 100002, 131072, 1000000} {
		for _, closes := range []bool{false, true} {
			for _, w := range plainWords {
				if s, e := Write(api.Reply{Status: w.status, Body: strings.Repeat("b", n), Close: closes}); s != "" || e != api.ErrReplyLong {
					t.Errorf("%d: %q, %v", n, short(s), e)
				}
			}
		}
	}
}

// P19.2: a status without a reason is told ahead of a body that is too long.
func TestWriteStatus(t *testing.T) {
	for _, status := range noStatus() {
		for _, body := range []string{"", "ok", strings.Repeat("b", 100000), strings.Repeat("b", 100001)} {
			for _, closes := range []bool{false, true} {
				if s, e := Write(api.Reply{Status: status, Body: body, Close: closes}); s != "" || e != api.ErrReplyStatus {
					t.Errorf("%d: %q, %v", status, short(s), e)
				}
			}
		}
	}
}
