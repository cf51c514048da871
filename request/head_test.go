package request

import (
	"slices"
	"strings"
	"testing"

	"cartulary/api"
)

// headers are what a request's header lines come to, its Host included, which is behind these.
func headers(t *testing.T, lines ...string) []api.Header {
	t.Helper()
	return whole(t, "GET /a HTTP/1.1\r\n"+headLines(append(slices.Clone(lines), "Host: h"))).Headers
}

// P18.1: header lines in their order, their names in small letters, their values as they stand, without layout at the ends.
func TestHeaders(t *testing.T) {
	for line, want := range map[string]api.Header{
		"a:b": {Name: "a", Value: "b"}, "A:B": {Name: "a", Value: "B"}, "a: b": {Name: "a", Value: "b"}, "a:b ": {Name: "a", Value: "b"}, "a:\t b\t ": {Name: "a", Value: "b"}, "a: b \t c ": {Name: "a", Value: "b \t c"},
		"a:": {Name: "a"}, "a: ": {Name: "a"}, "a:\t": {Name: "a"}, "a: \t \t": {Name: "a"}, "a::": {Name: "a", Value: ":"}, "a: :b:": {Name: "a", Value: ":b:"}, "a:b:c": {Name: "a", Value: "b:c"},
		"X-Y_Z.0~9:Q": {Name: "x-y_z.0~9", Value: "Q"}, "!#$%&'*+-.^_`|~:x": {Name: "!#$%&'*+-.^_`|~", Value: "x"}, "AZaz09:x": {Name: "azaz09", Value: "x"},
		"a:\x80\xff": {Name: "a", Value: "\x80\xff"}, "a: é ": {Name: "a", Value: "é"}, "a:\u00a0": {Name: "a", Value: "\u00a0"}, "a: \u2003x": {Name: "a", Value: "\u2003x"}, "a:\"q\" (c) {}[]@,;<>?/\\=": {Name: "a", Value: "\"q\" (c) {}[]@,;<>?/\\="},
		"cookie: %41": {Name: "cookie", Value: "%41"}, "hosts: x": {Name: "hosts", Value: "x"}, "1: 2": {Name: "1", Value: "2"},
	} {
		l := headers(t, line)
		if len(l) != 2 || l[0] != want || l[1] != (api.Header{Name: "host", Value: "h"}) {
			t.Errorf("%q: %+v", line, l)
		}
	}
	l := headers(t, "b: 1", "a: 2", "B: 3", "b:1", "a:")
	if !slices.Equal(l, []api.Header{{Name: "b", Value: "1"}, {Name: "a", Value: "2"}, {Name: "b", Value: "3"}, {Name: "b", Value: "1"}, {Name: "a"}, {Name: "host", Value: "h"}}) {
		t.Errorf("%+v", l)
	}
}

// P18.1: what is no header line: 400, with its last byte, whatever stands ahead of it.
func TestWrongHeaders(t *testing.T) {
	for _, line := range []string{
		"a", ":", ":b", " :b", "a :b", " a:b", "\ta:b", "a\t:b", " ", "\t", " b", "a b:c", "a(b:c", "a,b:c", "a/b:c", "a@b:c", "a[b:c", "a\\b:c", "a]b:c", "a{b:c", "a}b:c", "a\"b:c", "a;b:c", "a<b:c", "a=b:c", "a>b:c", "a?b:c", "\x00:b", "a\x7f:b", "é:b", "a\xff:b", "\x80:b", "\u212a:b",
		"a:\x00", "a:\x01b", "a:b\x08", "a:\x0b", "a:\x0c", "a:\x1f", "a:\x7f", "a:b\x7fc", "a: \x0b ", "a:b\x1b", "host",
	} {
		isRefused(t, "GET / HTTP/1.1\r\n"+line+"\r\n", 400)
		isRefused(t, "GET / HTTP/1.1\r\nHost: h\r\nx: y\r\n"+line+"\r\n", 400)
	}
	for b := range 256 {
		x := string([]byte{byte(b)})
		for _, line := range []string{x + ":b", "a" + x + ":b", x + "a:b", "a:" + x, "a:b" + x, "a:b" + x + "c", "a" + x + "b", x} {
			agrees(t, "GET / HTTP/1.1\r\n"+line+"\r\nHost: h\r\n\r\n")
			agrees(t, "GET / HTTP/1.1\r\n"+line+"\r\n")
		}
	}
}

// P18.1: up to sixteen header lines; the seventeenth is 431 with its last byte, whatever it is.
func TestManyHeaders(t *testing.T) {
	for n := range 20 {
		text := "GET / HTTP/1.1\r\nHost: h\r\n" + strings.Repeat("x: y\r\n", max(0, n-1))
		if n == 0 {
			text = "GET / HTTP/1.1\r\n"
		}
		switch {
		case n == 0:
			isRefused(t, text+"\r\n", 400)
		case n <= 16:
			if r := whole(t, text+"\r\n"); len(r.Headers) != n {
				t.Errorf("%d headers, not %d", len(r.Headers), n)
			}
		default:
			isRefused(t, text[:len("GET / HTTP/1.1\r\nHost: h\r\n")+16*len("x: y\r\n")], 431)
			if s := agrees(t, text+"\r\n"); s != 431 {
				t.Errorf("%d headers: %d", n, s)
			}
		}
	}
	full := "GET / HTTP/1.1\r\n" + strings.Repeat("x: y\r\n", 16)
	for _, line := range []string{"x: y", "x", ":", " ", "\x00", "host: h", "content-length: 1001", "transfer-encoding: x"} {
		isRefused(t, full+line+"\r\n", 431)
	}
	isRefused(t, full+"\r\n", 400)
	needsMore(t, full)
	isRefused(t, full+"\n", 400)
	isRefused(t, full+"x\n", 400)
	isRefused(t, strings.Replace(full, "x", " ", 1)[:len("GET / HTTP/1.1\r\nx: y\r\n")], 400)
}

// P18.1: just one host, whatever its value; it is asked behind the empty line.
func TestHost(t *testing.T) {
	for _, c := range []struct {
		lines  string
		status int
	}{
		{"", 400}, {"x: y|", 400}, {"hosts: h|", 400}, {"hos: t|", 400}, {"x-host: h|", 400}, {"Host: h|", 200}, {"host:|", 200}, {"HOST: a b, c|", 200}, {"hOsT:\xff|", 200}, {"x: y|host: h|", 200}, {"x: host|", 400},
		{"Host: h|Host: h|", 400}, {"Host: h|host: i|", 400}, {"Host:|x: y|HOST:|", 400}, {"host: 1|host: 2|host: 3|", 400},
	} {
		text := on("GET / HTTP/1.1|" + c.lines)
		needsMore(t, text)
		isRefused(t, text+"\r\n", c.status)
	}
}

// P18.1: the framing, in the order of its parts: 400 of the host; with a transfer-encoding 400 of a content-length, 501; with a content-length 400, 413.
func TestFraming(t *testing.T) {
	for _, c := range []struct {
		lines  string
		status int
	}{
		{"transfer-encoding: chunked|", 0}, {"transfer-encoding: CHUNKED|", 0}, {"Transfer-Encoding:\tcHuNkEd \t|", 0},
		{"transfer-encoding:|", 501}, {"transfer-encoding: gzip|", 501}, {"transfer-encoding: identity|", 501}, {"transfer-encoding: gzip, chunked|", 501}, {"transfer-encoding: chunked,|", 501}, {"transfer-encoding: chunked, chunked|", 501}, {"transfer-encoding: chunke|", 501}, {"transfer-encoding: chunkedd|", 501}, {"transfer-encoding: \"chunked\"|", 501}, {"transfer-encoding: c hunked|", 501}, {"transfer-encoding: chun\u212aed|", 501}, {"transfer-encoding: CHUN\u212aED|", 501}, {"transfer-encoding: \xffchunked|", 501}, {"transfer-encoding: \u00a0chunked|", 501},
		{"transfer-encoding: chunked|transfer-encoding: chunked|", 501}, {"transfer-encoding: chunked|x: y|Transfer-Encoding: gzip|", 501}, {"transfer-encoding: gzip|transfer-encoding: chunked|", 501}, {"transfer-encoding: chunked|transfer-encoding:|", 501},
		{"transfer-encoding: chunked|content-length: 3|", 400}, {"content-length: 3|transfer-encoding: chunked|", 400}, {"transfer-encoding: gzip|content-length: 3|", 400}, {"transfer-encoding: chunked|content-length: x|", 400}, {"transfer-encoding: chunked|content-length: 1001|", 400}, {"transfer-encoding: x|transfer-encoding: x|content-length: 0|", 400}, {"transfer-encoding: chunked|content-length: 0|content-length: 0|", 400}, {"transfer-encoding:|content-length:|", 400},
		{"content-length: 0|", 200}, {"content-length: 00|", 200}, {"content-length: 000000000|", 200}, {"Content-Length: \t1 |", 0}, {"content-length: 9|", 0}, {"content-length: 999|", 0}, {"content-length: 1000|", 0}, {"content-length: 000001000|", 0}, {"content-length: 1001|", 413}, {"content-length: 000001001|", 413}, {"content-length: 9999|", 413}, {"content-length: 65536|", 413}, {"content-length: 65537|", 413}, {"content-length: 999999999|", 413}, {"content-length: 100000000|", 413},
		{"content-length: 0000000000|", 400}, {"content-length: 0000000001|", 400}, {"content-length: 1000000000|", 400}, {"content-length: 4294967296|", 400}, {"content-length: 18446744073709551616|", 400}, {"content-length:|", 400}, {"content-length: |", 400}, {"content-length: -1|", 400}, {"content-length: +1|", 400}, {"content-length: 1.0|", 400}, {"content-length: 0x1|", 400}, {"content-length: 1_0|", 400}, {"content-length: a|", 400}, {"content-length: 1a|", 400}, {"content-length: a1|", 400}, {"content-length: 1 2|", 400}, {"content-length: 1,1|", 400}, {"content-length: 1, 1|", 400}, {"content-length: 1e2|", 400}, {"content-length: /|", 400}, {"content-length: :|", 400}, {"content-length: \u0661|", 400}, {"content-length: \xb2|", 400},
		{"content-length: 1|content-length: 1|", 400}, {"content-length: 1|x: y|Content-Length: 2|", 400}, {"content-length: 1001|content-length: 1001|", 400}, {"content-length: 1|content-length: x|", 400}, {"content-length: 0|content-length:|", 400},
		{"x-content-length: 1001|", 200}, {"content-lengt: x|", 200}, {"transfer-encodin: x|", 200}, {"content-encoding: gzip|", 200}, {"te: gzip|", 200},
	} {
		for _, host := range []string{"Host: h|" + c.lines, c.lines + "Host: h|"} {
			for _, method := range []string{"GET", "POST"} {
				text := on(method + " / HTTP/1.1|" + host)
				needsMore(t, text)
				if c.status == 0 {
					needsMore(t, text+"\r\n")
				} else {
					isRefused(t, text+"\r\n", c.status)
				}
			}
		}
		for _, host := range []string{c.lines, "Host: h|Host: h|" + c.lines} {
			isRefused(t, on("GET / HTTP/1.1|"+host+"|"), 400)
		}
	}
}

// P18.1: Close: any part of any connection.
func TestClose(t *testing.T) {
	for lines, want := range map[string]bool{
		"": false, "connection: close|": true, "Connection: Close|": true, "CONNECTION: CLOSE|": true, "connection:close|": true, "connection: cLoSe \t|": true,
		"connection:|": false, "connection: ,|": false, "connection: keep-alive|": false, "connection: keep-alive, close|": true, "connection: close, keep-alive|": true, "connection: a,\tclose\t,b|": true, "connection: ,close|": true, "connection: close,|": true, "connection: ,,close,,|": true, "connection: a,b,c,close|": true,
		"connection: closed|": false, "connection: clos|": false, "connection: xclose|": false, "connection: close x|": false, "connection: x close|": false, "connection: cl ose|": false, "connection: close;x|": false, "connection: \"close\"|": false, "connection: close.|": false, "connection: c,l,o,s,e|": false, "connection: clo\u017fe|": false, "connection: CLO\u017fE|": false, "connection: \u00a0close|": false, "connection: close\xff|": false, "connection: clo,se|": false,
		"connection: x|connection: close|": true, "connection: close|connection: x|": true, "connection: x|y: z|Connection: y, Close|": true, "connection: x|connection: y|": false, "connection: clo|connection: se|": false,
		"connections: close|": false, "x-connection: close|": false, "close: close|": false, "proxy-connection: close|": false, "x: close|": false,
	} {
		r := whole(t, on("GET / HTTP/1.1|Host: close|"+lines+"|"))
		if r.Close != want {
			t.Errorf("%q: %v", lines, r.Close)
		}
		r = whole(t, on("POST / HTTP/1.1|"+lines+"Host:|Content-Length: 5||close"))
		if r.Close != want {
			t.Errorf("%q: %v", lines, r.Close)
		}
	}
}

// P18.2: the first one's value, and how many there are; by the name as it stands.
func TestGet(t *testing.T) {
	r := whole(t, on("GET / HTTP/1.1|Host: h|A: 1|b:|a: 2|B: 3|A:|x: 4||"))
	r.Headers = append(r.Headers, api.Header{Name: "Great", Value: "5"}, api.Header{Name: "", Value: "6"}, api.Header{Name: "great", Value: "7"}, api.Header{Name: "\x00\xff", Value: "\xff\x00"})
	for name, want := range map[string]struct {
		value string
		n     int
	}{
		"host": {"h", 1}, "a": {"1", 3}, "b": {"", 2}, "x": {"4", 1}, "Great": {"5", 1}, "great": {"7", 1}, "": {"6", 1}, "\x00\xff": {"\xff\x00", 1},
		"A": {"", 0}, "Host": {"", 0}, "c": {"", 0}, "hos": {"", 0}, "hostt": {"", 0}, " host": {"", 0}, "GREAT": {"", 0}, "\x00": {"", 0},
	} {
		if v, n := Get(r, name); v != want.value || n != want.n {
			t.Errorf("%q: %q, %d", name, v, n)
		}
	}
	for _, r := range []api.Request{{}, {Headers: []api.Header{}}, {Method: "host", Path: "host", Query: "host", Body: "host"}} {
		for _, name := range []string{"", "host"} {
			if v, n := Get(r, name); v != "" || n != 0 {
				t.Errorf("%q: %q, %d", name, v, n)
			}
		}
	}
	// Of hand-made requests there may be more than sixteen.
	many := api.Request{Headers: slices.Repeat([]api.Header{{Name: "n", Value: "v"}, {Name: "m", Value: "w"}}, 50000)}
	if v, n := Get(many, "m"); v != "w" || n != 50000 {
		t.Errorf("%q, %d", v, n)
	}
}
