package response

import (
	"fmt"
	"strings"
	"testing"

	"cartulary/api"
)

// P19.3: the chapter's examples.
func TestExamples(t *testing.T) {
	s := written(t, api.Reply{Status: 200, Body: "ok"})
	if s != on("HTTP/1.1 200 OK|Content-Length: 2||ok") || len(s) != 40 {
		t.Errorf("%q", s)
	}
	reads(t, s+"x", api.Reply{Status: 200, Body: "ok"}, 40)
	isRefused(t, s[:20], api.ErrReplyShort)
	breaks(t, "HTTP/1.1 201")
}

// behind may stand behind a reply.
func behind() []string {
	return []string{"", "x", "\n", "\r\n", "\x00", "\xff", "0", "HTTP/1.1 200 OK", on("HTTP/1.1 200 OK|Content-Length: 2||ok"), strings.Repeat("z", 1000)}
}

// P19.3, P19.5: what was written is read again, whatever stands behind it; of each of its beginnings more is needed.
func TestReadAgain(t *testing.T) {
	for _, r := range replies() {
		s := written(t, r)
		for _, x := range behind() {
			reads(t, s+x, r, len(s))
		}
		for i := range len(s) {
			if i < 200 || i > len(s)-3 {
				isRefused(t, s[:i], api.ErrReplyShort)
			}
		}
	}
}

// P19.3: a text with a byte at some place that is another one, that lacks, or that is there twice.
func TestBytesOfHead(t *testing.T) {
	for i, w := range plainWords {
		s := written(t, api.Reply{Status: w.status, Body: strings.Repeat("5", 7+i), Close: i%2 == 0})
		others := "\r\n\t 0129:aZ\x00\x7f\x80\xff"
		if i < 2 {
			for b := range 256 {
				others += string([]byte{byte(b)})
			}
		}
		for at := range len(s) {
			for k := range len(others) {
				x := others[k : k+1]
				for _, text := range []string{s[:at] + x + s[at+1:], s[:at] + x, s[:at] + x + s[at:]} {
					agrees(t, text)
				}
			}
			agrees(t, s[:at]+s[at+1:])
			agrees(t, s[:at]+s[at:at+1]+s[at:])
			agrees(t, s[at:])
			agrees(t, strings.ToLower(s[:at])+s[at:])
			agrees(t, strings.ToUpper(s[:at])+s[at:])
		}
	}
}

// P19.3: of all texts of up to four digits, those that begin a status, and those that are one.
func TestStatuses(t *testing.T) {
	begins := map[string]bool{"": true}
	for _, w := range plainWords {
		s := fmt.Sprint(w.status)
		begins[s[:1]], begins[s[:2]], begins[s] = true, true, true
	}
	for digits := range 5 {
		end := 1
		for range digits {
			end *= 10
		}
		for n := range end {
			s := fmt.Sprintf("%0*d", digits, n)[:digits]
			why := api.ErrReplyForm
			if begins[s] {
				why = api.ErrReplyShort
			}
			isRefused(t, "HTTP/1.1 "+s, why)
			for _, w := range plainWords {
				text := "HTTP/1.1 " + s + " " + w.reason + on("|Content-Length: 1||a")
				if s == fmt.Sprint(w.status) {
					reads(t, text, api.Reply{Status: w.status, Body: "a"}, len(text))
				} else {
					isRefused(t, text, api.ErrReplyForm)
				}
			}
		}
	}
}

// P19.3: the length is written in just one way, and is at most the limit.
func TestLengths(t *testing.T) {
	for _, w := range []string{"HTTP/1.1 200 OK\r\n", "HTTP/1.1 507 Insufficient Storage\r\n"} {
		isRefused(t, w+"Content-Length: ", api.ErrReplyShort)
		for _, bad := range []string{"00", "01", "010", "0000000000", " ", "\t", "+", "-", "+1", "-1", "-0", "x", "a", "A", "/", ":", "\r", "\r\n", "\n", "\x00", "\xff", "é", "１", "1 ", "1\t", "1\n", "1x", "1.0", "1,0", "1_0", "1e3", "0x1", "0x", "0 ", "10a", "100001", "100002", "100010", "100009", "1000000", "100000a", "200000", "999999", "123456", "99999a", "1000000000", "4294967296", "4294967297", "9223372036854775807", "18446744073709551616", "18446744073709551617", strings.Repeat("9", 400), "1" + strings.Repeat("0", 400)} {
			for _, x := range []string{"", "\r", "\r\n", "\r\n\r\n", "\r\n\r\n" + strings.Repeat("y", 200000), "\r\nConnection: close\r\n\r\nabc"} {
				isRefused(t, w+"Content-Length: "+bad+x, api.ErrReplyForm)
			}
		}
	}
	for b := range 256 {
		x := string([]byte{byte(b)})
		for _, n := range []string{"", "0", "1", "9", "10", "12345", "10000", "10001", "99999", "100000", "100001"} {
			for _, y := range []string{"", "0", "\r\n", "\r\n\r\n", "\n\r\n0123456789"} {
				agrees(t, "HTTP/1.1 200 OK\r\nContent-Length: "+n+x+y)
			}
		}
	}
}

// P19.3: each length up to the limit, and some beyond it.
func TestEachLength(t *testing.T) {
	body := strings.Repeat("b", 100010)
	for n := range 100200 {
		head := fmt.Sprintf("HTTP/1.1 200 OK\r\nContent-Length: %d", n)
		why := api.ErrReplyShort
		if n > 100000 {
			why = api.ErrReplyForm
		}
		for _, x := range []string{"", "\r", "\r\n", "\r\nConnection: close\r\n\r"} {
			if r, k, e := Read(head + x); e != why || k != 0 || r != (api.Reply{}) {
				t.Fatalf("%q: %d, %v", head+x, k, e)
			}
		}
		if n > 1100 && n < 99900 && n%1009 != 0 || n > 100000 {
			continue
		}
		s := head + "\r\n\r\n"
		reads(t, s+body, api.Reply{Status: 200, Body: body[:n]}, len(s)+n)
		reads(t, s+body[:n], api.Reply{Status: 200, Body: body[:n]}, len(s)+n)
		if n > 0 {
			isRefused(t, s+body[:n-1], api.ErrReplyShort)
			isRefused(t, s, api.ErrReplyShort)
		}
	}
}

// P19.3: whole texts that nothing is written as.
func TestOtherHeads(t *testing.T) {
	for _, text := range []string{
		"x", " ", "|", "\n", "\x00", "http/1.1 200 OK", "HTTP/1.0 200 OK", "HTTP/1.10", "HTTP/2", "HTTP/1.1  200", "HTTP/1.1\t200", " HTTP/1.1 200 OK|Content-Length: 0||", "|HTTP/1.1 200 OK|Content-Length: 0||",
		"HTTP/1.1 200|Content-Length: 0||", "HTTP/1.1 200 |Content-Length: 0||", "HTTP/1.1 200 Ok|Content-Length: 0||", "HTTP/1.1 200 ok|Content-Length: 0||", "HTTP/1.1 200 OK |Content-Length: 0||", "HTTP/1.1 200  OK|Content-Length: 0||", "HTTP/1.1 200 OK\nContent-Length: 0||", "HTTP/1.1 200 OK\rContent-Length: 0||", "HTTP/1.1 200 OK||Content-Length: 0||",
		"HTTP/1.1 200 OK||", "HTTP/1.1 200 OK|content-length: 0||", "HTTP/1.1 200 OK|Content-Length:0||", "HTTP/1.1 200 OK|Content-Length:  0||", "HTTP/1.1 200 OK|Content-Length : 0||", "HTTP/1.1 200 OK|Content-Length: 0 ||", "HTTP/1.1 200 OK| Content-Length: 0||", "HTTP/1.1 200 OK|Content-Length: 0\n|", "HTTP/1.1 200 OK|Content-Length: 0\r\r", "HTTP/1.1 200 OK|Content-Length: 0|\n", "HTTP/1.1 200 OK|Content-Length: 0|\rx",
		"HTTP/1.1 200 OK|Content-Length: 0|Content-Length: 0||", "HTTP/1.1 200 OK|Content-Length: 0|x: y||", "HTTP/1.1 200 OK|x: y|Content-Length: 0||", "HTTP/1.1 200 OK|Connection: close|Content-Length: 0||", "HTTP/1.1 200 OK|Connection: close||",
		"HTTP/1.1 200 OK|Content-Length: 0|Connection: Close||", "HTTP/1.1 200 OK|Content-Length: 0|connection: close||", "HTTP/1.1 200 OK|Content-Length: 0|Connection:close||", "HTTP/1.1 200 OK|Content-Length: 0|Connection: close ||", "HTTP/1.1 200 OK|Content-Length: 0|Connection: keep-alive||", "HTTP/1.1 200 OK|Content-Length: 0|Connection: close|Connection: close||", "HTTP/1.1 200 OK|Content-Length: 0|Connection: close\n|", "HTTP/1.1 200 OK|Content-Length: 0|Connection: close|x", "HTTP/1.1 200 OK|Content-Length: 0|Connection: close|\n",
		"HTTP/1.1 200 OK|Transfer-Encoding: chunked||0||", "HTTP/1.1 404 OK|Content-Length: 0||", "HTTP/1.1 200 Not Found|Content-Length: 0||", "HTTP/1.1 OK 200|Content-Length: 0||", "HTTP/1.1 0200 OK|Content-Length: 0||", "HTTP/1.1 +200 OK|Content-Length: 0||", "GET / HTTP/1.1|Host: h||",
	} {
		isRefused(t, on(text), api.ErrReplyForm)
		isRefused(t, on(text)+strings.Repeat("x", 100), api.ErrReplyForm)
	}
	for _, text := range []string{"2010", "|", "200 Oh", "200 OK ", "200 OK\n", "200 OK||", "200 OK|c", "200 OK|Content-Length: |", "200 OK|Content-Length: 00", "200 OK|Content-Length: 100001", "200 OK|Content-Length: 5|x", "200 OK|Content-Length: 5|Connection: k", "200 OK|Content-Length: 5|Connection: close|C", "40x", "41x", "412", "432", "502", "508", "6", "3"} {
		s := "HTTP/1.1 " + on(text)
		for n := 1; n <= len(s); n++ {
			if _, _, e := agrees(t, s[:n]); e == api.ErrReplyForm {
				breaks(t, s[:n])
				break
			}
		}
		isRefused(t, s, api.ErrReplyForm)
	}
}
