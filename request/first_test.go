package request

import (
	"fmt"
	"strings"
	"testing"

	"cartulary/api"
)

const tail = "\r\nHost: h\r\n\r\n"

// P18.1: the chapter's examples.
func TestExamples(t *testing.T) {
	text := on("GET /a/b?x=1 HTTP/1.1|Host: h||")
	for _, behind := range []string{"", "and anything", "\n", "\r", text, "\x00"} {
		r, n, s := Parse(text + behind)
		want := api.Request{Method: "GET", Path: "/a/b", Query: "x=1", Headers: []api.Header{{Name: "host", Value: "h"}}}
		if s != 200 || n != 34 || !same(r, want) {
			t.Errorf("%+v, %d, %d", r, n, s)
		}
	}
	r, n, s := Parse(on("POST /c HTTP/1.1|Host: h|Content-Length: 3||abcd"))
	want := api.Request{Method: "POST", Path: "/c", Headers: []api.Header{{Name: "host", Value: "h"}, {Name: "content-length", Value: "3"}}, Body: "abc"}
	if s != 200 || n != 51 || !same(r, want) {
		t.Errorf("%+v, %d, %d", r, n, s)
	}
	text = on("POST /c HTTP/1.1|Host: h|Transfer-Encoding: Chunked||2|ab|1|c|0||")
	r, n, s = Parse(text)
	want.Headers[1] = api.Header{Name: "transfer-encoding", Value: "Chunked"}
	if s != 200 || n != len(text) || !same(r, want) {
		t.Errorf("%+v, %d, %d", r, n, s)
	}
	needsMore(t, "GET /a/b?x")
	needsMore(t, "")
	isRefused(t, on("GET /a HTTP/1.1||"), 400)
	isRefused(t, on("PUT / HTTP/1.1|"), 501)
	isRefused(t, on("GET  / HTTP/1.1|"), 400)
	isRefused(t, "GET /\n", 400)
	isRefused(t, post("Content-Length: 1001"), 413)
	isRefused(t, strings.Repeat("x", 257), 431)
}

// first asks what a first line comes to: it is judged with the line's last byte.
func first(t *testing.T, line string, status int) api.Request {
	t.Helper()
	if status != api.StatusOK {
		isRefused(t, line+"\r\n", status)
		return api.Request{}
	}
	needsMore(t, line+"\r\n")
	return whole(t, line+tail)
}

// P18.1: which methods there are.
func TestMethods(t *testing.T) {
	for method, status := range map[string]int{
		"GET": 200, "POST": 200, "PUT": 501, "DELETE": 501, "HEAD": 501, "OPTIONS": 501, "G": 501, "A": 501, "Z": 501, "GETT": 501, "GE": 501, "POS": 501, "POSTS": 501, strings.Repeat("Z", 240): 501,
		"": 400, "get": 400, "Get": 400, "GEt": 400, "GET1": 400, "G-T": 400, "GET\t": 400, "\tGET": 400, " GET": 400, "GET ": 400, "PUT-": 400, "@": 400, "[": 400, "GÉT": 400, "GET\x00": 400, "M_SEARCH": 400, "M-SEARCH": 400,
	} {
		r := first(t, method+" /a HTTP/1.1", status)
		if status == 200 && (r.Method != method || r.Path != "/a" || r.Query != "") {
			t.Errorf("%+v", r)
		}
	}
}

// P18.1: targets: what stands ahead of the first ?, and behind it, as it stands.
func TestTargets(t *testing.T) {
	for target, want := range map[string][2]string{
		"/": {"/", ""}, "//": {"//", ""}, "/a": {"/a", ""}, "/a/": {"/a/", ""}, "/a/b/c": {"/a/b/c", ""}, "/.": {"/.", ""}, "/..": {"/..", ""}, "/-._~": {"/-._~", ""},
		"/azAZ09": {"/azAZ09", ""}, "/%00": {"/%00", ""}, "/%fF%Ff": {"/%fF%Ff", ""}, "/%2F%3f": {"/%2F%3f", ""}, "/%41b": {"/%41b", ""}, "/%25%25": {"/%25%25", ""}, "/%0a": {"/%0a", ""},
		"/?": {"/", ""}, "/a?": {"/a", ""}, "/?x": {"/", "x"}, "/a?x=1&y='z": {"/a", "x=1&y='z"}, "/?/=&'": {"/", "/=&'"}, "/?%20%3F": {"/", "%20%3F"}, "/?-._~azAZ09": {"/", "-._~azAZ09"}, "/a/?/": {"/a/", "/"}, "/?%00%ff": {"/", "%00%ff"}, "/%?"[:1]: {"/", ""},
	} {
		r := first(t, "GET "+target+" HTTP/1.1", 200)
		if r.Path != want[0] || r.Query != want[1] {
			t.Errorf("%q: %q, %q", target, r.Path, r.Query)
		}
		first(t, "PUT "+target+" HTTP/1.1", 501)
	}
	for _, target := range []string{
		"", "a", "a/b", "*", "?", "?/", "?x=1", "%2F", "%2Fa", "http://h/", "h", "=", "\\", "~/", "./", "/ ", " /", "/a b", "/a\tb", "/\x00", "/\x7f", "/é", "/\x80", "/\xff",
		"/%", "/%4", "/%zz", "/%4z", "/%z4", "/%%41", "/a%", "/a%2", "/%2/", "/%/2", "/%2?", "/%?2", "/%?", "/%g0", "/%0g", "/%-1", "/%+1", "/% 1", "/%@0", "/%0@", "/%0/",
		"/?%", "/?%4", "/?%zz", "/?%4z", "/?%z4", "/?a%", "/?a%2", "/?%%41", "/?%=1",
		"/a=b", "/a&b", "/a'b", "/a+b", "/a,b", "/a;b", "/a:b", "/a@b", "/a!b", "/a$b", "/a(b)", "/a*b", "/a#b", "/a\"b", "/a<b>", "/a[b]", "/a{b}", "/a|b", "/a^b", "/a`b", "/a\\b",
		"/??", "/?x?", "/?a?b=1", "/?a+b", "/?a;b", "/?a,b", "/?a:b", "/?a@b", "/?a!b", "/?a$b", "/?a*b", "/?a(b", "/?a#b", "/a#", "/?a\"b", "/?[", "/?]", "/?|", "/?^", "/?`", "/?{", "/?\\", "/?\x7f", "/?\x80", "/?é",
	} {
		first(t, "GET "+target+" HTTP/1.1", 400)
		first(t, "PUT "+target+" HTTP/1.1", 400)
	}
}

// P18.1: each byte, in each part of the first line.
func TestBytesOfFirstLine(t *testing.T) {
	for b := range 256 {
		x := string([]byte{byte(b)})
		for _, line := range []string{"GET" + x + " /a?b HTTP/1.1", x + "GET /a?b HTTP/1.1", "G" + x + "T /a?b HTTP/1.1", "GET " + x + "a?b HTTP/1.1", "GET /" + x + " HTTP/1.1", "GET /" + x + "a?b HTTP/1.1", "GET /a?" + x + " HTTP/1.1", "GET /a?b" + x + "c HTTP/1.1", "GET /a" + x + "?b HTTP/1.1", "GET /a%" + x + "1 HTTP/1.1", "GET /a%1" + x + " HTTP/1.1", "GET /a?%" + x + "a HTTP/1.1", "GET /a?%F" + x + " HTTP/1.1", "GET" + x + "/a HTTP/1.1", "GET /a" + x + "HTTP/1.1", "GET /a HTTP/1." + x, "GET /a HTTP" + x + "1.1", "GET /a HTTP/1.1" + x, "GET /a " + x + "HTTP/1.1"} {
			agrees(t, line)
			agrees(t, line+"\r\n")
			agrees(t, line+tail)
		}
	}
}

// P18.1: the version is HTTP/1.1, in great letters, and nothing stands behind it; there is just one blank between the parts.
func TestVersions(t *testing.T) {
	for _, v := range []string{"", "HTTP", "HTTP/", "HTTP/1", "HTTP/1.", "HTTP/1.0", "HTTP/1.2", "HTTP/2", "HTTP/2.0", "HTTP/0.9", "HTTP/1.10", "HTTP/1.11", "HTTP/11", "HTTP/1,1", "HTTP/01.1", "http/1.1", "Http/1.1", "HTTP/1.1 ", " HTTP/1.1", "HTTP/1.1\t", "\tHTTP/1.1", "HTTPS/1.1", "HTTP /1.1", "HTTP/1.1 x", "HTTP/1.1\x00", "XHTTP/1.1"} {
		first(t, "GET / "+v, 400)
		first(t, "PUT / "+v, 400)
	}
	for _, line := range []string{"", " ", "  ", "GET", "GET ", "GET /", "GET / ", "GET/ HTTP/1.1", "GET /HTTP/1.1", "GET HTTP/1.1", "GET  HTTP/1.1", "GET  / HTTP/1.1", "GET /  HTTP/1.1", " GET / HTTP/1.1", "GET / a HTTP/1.1", "GET\t/\tHTTP/1.1", "/ GET HTTP/1.1", "HTTP/1.1 200 OK", "GET / HTTP/1.1 HTTP/1.1"} {
		first(t, line, 400)
	}
	r := first(t, "POST /x HTTP/1.1", 200)
	if r.Method != "POST" || r.Path != "/x" {
		t.Errorf("%+v", r)
	}
}

// P18.1: no empty line may stand ahead of the first one; what is wrong with the line is 400 ahead of a method that is none of the two, 501.
func TestFirstOfAll(t *testing.T) {
	isRefused(t, "\r\n", 400)
	isRefused(t, "\n", 400)
	isRefused(t, "\r\r", 400)
	isRefused(t, "\rG", 400)
	needsMore(t, "\r")
	for _, line := range []string{"PUT / HTTP/1.0", "PUT  / HTTP/1.1", "PUT x HTTP/1.1", "PUT /", "PUT /%4 HTTP/1.1", "PUT /?? HTTP/1.1"} {
		first(t, line, 400)
	}
	// What stands behind a line that is refused does not count, also when it is wrong too.
	for _, behind := range []string{"", "\n", "x", strings.Repeat("x", 300), "Host: h\r\n\r\n"} {
		if s := agrees(t, "PUT / HTTP/1.1\r\n"+behind); s != 501 {
			t.Errorf("%q: %d", short(behind), s)
		}
		if s := agrees(t, "GET / HTTP/1.0\r\n"+behind); s != 400 {
			t.Errorf("%q: %d", short(behind), s)
		}
	}
	for n := range 12 {
		if s := agrees(t, fmt.Sprint("PUT / HTTP/1.1")[:n]); s != 0 {
			t.Errorf("%d bytes: %d", n, s)
		}
	}
}
