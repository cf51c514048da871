package response

import (
	"math/rand"
	"strings"
	"testing"

	"cartulary/api"
)

// R1: any bytes, at once and behind what replies begin with: each call ends, and none panics.
func TestAnyBytes(t *testing.T) {
	r := rand.New(rand.NewSource(5))
	heads := []string{"", "H", "HTTP/1.1 ", "HTTP/1.1 2", "HTTP/1.1 200", "HTTP/1.1 200 OK\r\n", "HTTP/1.1 200 OK\r\nContent-Length: ", "HTTP/1.1 200 OK\r\nContent-Length: 1", "HTTP/1.1 200 OK\r\nContent-Length: 100\r\n", "HTTP/1.1 200 OK\r\nContent-Length: 100\r\nConnection: ", "HTTP/1.1 200 OK\r\nContent-Length: 100\r\n\r\n", "HTTP/1.1 200 OK\r\nContent-Length: 100\r\nConnection: close\r\n\r\n"}
	for n := range 300 {
		b := make([]byte, n)
		for range 5 {
			r.Read(b)
			for _, head := range heads {
				agrees(t, head+string(b))
				All(head + string(b))
			}
		}
		for _, x := range []string{"\x00", "\xff", "\r", "\n", "\r\n", "0", "1", "9", " ", ":", "H", "HTTP/1.1 "} {
			for _, head := range heads {
				agrees(t, head+strings.Repeat(x, n))
			}
		}
	}
}

// R1, R2: replies that were made by hand, with anything in them; beside an error all else is zero.
func TestByHand(t *testing.T) {
	if s, e := Write(api.Reply{}); s != "" || e != api.ErrReplyStatus {
		t.Errorf("%q, %v", s, e)
	}
	for _, status := range append(noStatus(), 200, 507) {
		for _, body := range append(bodies(), strings.Repeat("x", 100001), strings.Repeat("\xff", 1<<22)) {
			s, e := Write(api.Reply{Status: status, Body: body})
			switch {
			case plainReason(status) == "" && (s != "" || e != api.ErrReplyStatus):
				t.Errorf("%d: %q, %v", status, short(s), e)
			case plainReason(status) != "" && len(body) > 100000 && (s != "" || e != api.ErrReplyLong):
				t.Errorf("%d: %q, %v", status, short(s), e)
			case plainReason(status) != "" && len(body) <= 100000 && (s != plainWrite(api.Reply{Status: status, Body: body}) || e != api.OK):
				t.Errorf("%d: %q, %v", status, short(s), e)
			}
		}
	}
}
