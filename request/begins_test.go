package request

import (
	"math/rand"
	"strings"
	"testing"

	"cartulary/api"
)

// texts are requests, and some that are refused.
func texts() []string {
	full := "GET / HTTP/1.1\r\nhost: h\r\n" + strings.Repeat("x: y\r\n", 15)
	return []string{
		on("GET /a/b?x=1 HTTP/1.1|Host: h||"), on("POST /c HTTP/1.1|Host: h|Content-Length: 3||abc"), on("POST /%41?%42 HTTP/1.1|Transfer-Encoding: Chunked|Host: h||2|ab|01|c|0||"),
		on("GET / HTTP/1.1|Host:|Connection: x, close||"), full + "\r\n", full + "x: y\r\n\r\n", on("PUT / HTTP/1.1|Host: h||"), on("GET / HTTP/1.0|Host: h||"), on("GET / HTTP/1.1||"), on("GET / HTTP/1.1|Host: h|Content-Length: 1001||"),
		on("GET / HTTP/1.1|Host: h|Transfer-Encoding: x||"), on("GET / HTTP/1.1|Host: h|Transfer-Encoding: x|Content-Length: 1||"), chunked("3e9|"), chunked("1|ab"), chunked("0|x|"), chunked("1|a|0|\r\r"), get("content-length: 1", "content-length: 1"),
	}
}

// P18.3: of each beginning of each text more is needed, up to one from which on the answer stays, whatever comes behind.
func TestBegins(t *testing.T) {
	for _, text := range texts() {
		settled := -1
		var r api.Request
		var n, s int
		for i := range len(text) + 1 {
			ri, ni, si := Parse(text[:i])
			agrees(t, text[:i])
			if settled < 0 && si != 0 {
				settled, r, n, s = i, ri, ni, si
			}
			switch {
			case settled < 0 && (si != 0 || ni != 0 || !same(ri, api.Request{})):
				t.Fatalf("%q: %+v, %d, %d", text[:i], ri, ni, si)
			case settled >= 0 && (si != s || ni != n || !same(ri, r)):
				t.Fatalf("%q: %+v, %d, %d, not %+v, %d, %d", text[:i], ri, ni, si, r, n, s)
			}
		}
		if settled < 0 {
			t.Fatalf("%q: more is needed", text)
		}
		if s == 200 && n != settled || s != 200 && (n != 0 || !same(r, api.Request{})) {
			t.Fatalf("%q: %+v, %d, %d", text, r, n, s)
		}
		for b := range 256 {
			behind := text[:settled] + string([]byte{byte(b)})
			for _, more := range []string{behind, behind + text, behind + "\n", behind + strings.Repeat("x", 300)} {
				rb, nb, sb := Parse(more)
				if sb != s || nb != n || !same(rb, r) {
					t.Fatalf("%q: %+v, %d, %d, not %+v, %d, %d", short(more), rb, nb, sb, r, n, s)
				}
			}
		}
	}
}

// P18.1, P18.3: requests one behind the other are read one by one.
func TestOneByOne(t *testing.T) {
	all := strings.Join(texts()[:5], "")
	for i := 0; all != ""; i++ {
		r, n, s := Parse(all)
		want, wn, _ := Parse(texts()[i])
		if s != 200 || n != wn || !same(r, want) {
			t.Fatalf("%q: %+v, %d, %d", short(all), r, n, s)
		}
		all = all[n:]
	}
}

// P18.1: of each text, at each place: a byte that is lacking, one that is twice there, one more, another one.
func TestOneByteWrong(t *testing.T) {
	bytes := "\x00\t\n\r !%,/019:;=?ACGTafghx~\x7f\x80\xff"
	for _, text := range texts() {
		if len(text) > 130 {
			continue
		}
		for i := range len(text) {
			agrees(t, text[:i]+text[i+1:])
			agrees(t, text[:i]+text[i:i+1]+text[i:])
			for j := range len(bytes) {
				agrees(t, text[:i]+bytes[j:j+1]+text[i:])
				agrees(t, text[:i]+bytes[j:j+1]+text[i+1:])
			}
			for _, piece := range []string{"\r\n", "\r\n\r\n", "host: i\r\n", "\r\nhost: i", "%41", "HTTP/1.1"} {
				agrees(t, text[:i]+piece+text[i:])
			}
		}
	}
}

// pieces are what drawn texts are made of.
func pieces() []string {
	return []string{
		"GET", "POST", "PUT", "get", "", " ", "  ", "/", "/a", "/%41", "/%4", "?", "x=1", "'", "HTTP/1.1", "HTTP/1.0", "\r\n", "\r\n", "\r\n", "\r", "\n", "\t", "Host", "host:h", "Host: h\r\n", "Host: h\r\n", "x: y\r\n", "x", ":", ",",
		"Content-Length: ", "Content-Length: 3\r\n", "content-length:0\r\n", "0", "1", "3", "a", "3e8", "1001", "Transfer-Encoding: chunked\r\n", "transfer-encoding:", "gzip", "chunked", "connection: close\r\n", "Connection:", "close", "keep-alive", "abc", "\x00", "\x7f", "\xff", "é", "1\r\na\r\n", "0\r\n", "0\r\n\r\n", "2\r\nab\r\n",
	}
}

// P18.1, P18.3: texts that are drawn, against the plain account, with all their beginnings.
func TestDrawnTexts(t *testing.T) {
	r := rand.New(rand.NewSource(18))
	came := map[int]int{}
	l := pieces()
	for range 30000 {
		text := ""
		if r.Intn(4) > 0 {
			text = []string{"GET / HTTP/1.1\r\n", "POST /a?b HTTP/1.1\r\n", "GET /%41 HTTP/1.1\r\n", "PUT / HTTP/1.1\r\n"}[r.Intn(4)]
			if r.Intn(2) > 0 {
				text += "Host: h\r\n"
			}
		}
		for range r.Intn(12) {
			text += l[r.Intn(len(l))]
		}
		s := agrees(t, text)
		came[s]++
		if s != 0 {
			agrees(t, text[:r.Intn(len(text)+1)])
			agrees(t, text+l[r.Intn(len(l))])
		}
	}
	for _, s := range []int{0, 200, 400, 501} {
		if came[s] < 50 {
			t.Errorf("%d: %d times", s, came[s])
		}
	}
}

// drawn is a request, or nearly one.
func drawn(r *rand.Rand) string {
	one := func(l ...string) string { return l[r.Intn(len(l))] }
	letters := func(n int, from string) string {
		b := make([]byte, n)
		for i := range b {
			b[i] = from[r.Intn(len(from))]
		}
		return string(b)
	}
	rarely := func(often, other string) string {
		if r.Intn(40) == 0 {
			return other
		}
		return often
	}
	end := func() string { return rarely("\r\n", one("\n", "\r", "\r\r\n", " \r\n", "")) }
	text := rarely(one("GET", "POST"), one("PUT", "get", "", "G\x00")) + rarely(" ", one("", "  ", "\t"))
	text += rarely("/", one("", "x", "*")) + letters(r.Intn(20), "abcXYZ019-._~/") + rarely("", one("%41", "%4", "%", "+")) + one("", "?"+letters(r.Intn(20), "abcXYZ019-._~/=&'")) + rarely("", one("?", "%zz", "%2f", "\xff"))
	text += rarely(" ", one("", "  ")) + rarely("HTTP/1.1", one("HTTP/1.0", "http/1.1", "HTTP/1.1 ", "")) + end()
	var lines []string
	if r.Intn(30) > 0 {
		lines = append(lines, one("Host", "host", "HOST")+":"+one("", " ", "\t")+one("h", "", "a b"))
	}
	for range r.Intn(4) {
		lines = append(lines, letters(1+r.Intn(9), "abcXYZ019!#$%&'*+-.^_`|~")+rarely(":", one("", " :", "::"))+letters(r.Intn(20), "abc XYZ\t,;:\x80\xff\"")+rarely("", "\x00"))
	}
	if r.Intn(20) == 0 {
		for range 10 + r.Intn(6) {
			lines = append(lines, "n: v")
		}
	}
	body := drawnBody(r, one, &lines)
	if r.Intn(5) == 0 {
		lines = append(lines, "Connection: "+one("close", "x, Close", "closed", "keep-alive,close,", ""))
	}
	r.Shuffle(len(lines), func(i, j int) { lines[i], lines[j] = lines[j], lines[i] })
	for _, l := range lines {
		text += l + end()
	}
	return text + end() + body
}

// drawnBody draws a body, and the header lines that it needs.
func drawnBody(r *rand.Rand, one func(l ...string) string, lines *[]string) string {
	n := []int{0, 1, 3, 30, 999, 1000, 1001}[r.Intn(7)]
	data := strings.Repeat(one("a", "\r\n", "\x00\xff"), n)[:n]
	switch r.Intn(4) {
	case 0:
		return one("", "abc")
	case 1:
		*lines = append(*lines, one("Content-Length: ", "content-length:", "CONTENT-LENGTH:\t")+one("", "0", "00")+digits(n)+one("", "", "", "", " ", "x"))
		return data + one("", "", "x", "GET / HTTP/1.1")
	case 2:
		*lines = append(*lines, one("Content-Length: 3", "Transfer-Encoding: gzip", "Content-Length: 1001"))
	}
	*lines = append(*lines, one("Transfer-Encoding: ", "transfer-encoding:")+one("chunked", "chunked", "CHUNKED", "chunked ", "gzip, chunked"))
	text := ""
	for len(data) > 0 {
		k := min(len(data), 1+r.Intn(1+[]int{3, 40, 1000}[r.Intn(3)]))
		text += hex(r, k) + "\r\n" + data[:k] + "\r\n"
		data = data[k:]
	}
	text += one("0", "0", "00", "0000", "00000") + "\r\n" + one("", "", "", "x") + "\r\n"
	if r.Intn(10) == 0 {
		i := r.Intn(len(text))
		text = text[:i] + one("", "x", "\r", "\n", "0") + text[i+1:]
	}
	return text
}

func digits(n int) string {
	if n < 10 {
		return string(rune('0' + n))
	}
	return digits(n/10) + digits(n%10)
}

// hex is a size, in great and small digits, with noughts ahead.
func hex(r *rand.Rand, n int) string {
	s := ""
	for n > 0 {
		s = string("0123456789abcdef0123456789ABCDEF"[n%16+16*r.Intn(2)]) + s
		n /= 16
	}
	return strings.Repeat("0", r.Intn(5-len(s))) + s
}

// P18.1, P18.3: requests that are drawn, against the plain account; cut, and with something behind.
func TestDrawnRequests(t *testing.T) {
	r := rand.New(rand.NewSource(181))
	came := map[int]int{}
	for range 20000 {
		text := drawn(r)
		s := agrees(t, text)
		came[s]++
		a, n, _ := Parse(text)
		if i := r.Intn(len(text) + 1); s == 200 && i < n || s != 200 {
			agrees(t, text[:i])
		}
		b, m, k := Parse(text + drawn(r))
		if s != 0 && (k != s || m != n || !same(a, b)) {
			t.Fatalf("%q: %d, %d, not %d, %d", short(text), m, k, n, s)
		}
	}
	for _, s := range []int{0, 200, 400, 413, 431, 501} {
		if came[s] < 50 {
			t.Errorf("%d: %d times", s, came[s])
		}
	}
}

// P18.1, R1: each text of up to three bytes behind some beginnings of requests.
func TestShortTexts(t *testing.T) {
	bytes := "\x00\t\n\r !%/0:?GTaghx\xff"
	for _, ahead := range []string{"", "GET ", "GET /", "GET /?", "GET /a HTTP/1.1", "GET /a HTTP/1.1\r\n", "GET /a HTTP/1.1\r\nHost:", get()[:len(get())-2], chunked(""), chunked("1|"), chunked("1|a"), chunked("0|"), post("Content-Length: 2")} {
		for i := range len(bytes) {
			for j := range len(bytes) {
				for k := range len(bytes) {
					agrees(t, ahead+string([]byte{bytes[i], bytes[j], bytes[k]}))
				}
				agrees(t, ahead+string([]byte{bytes[i], bytes[j]}))
			}
		}
	}
}
