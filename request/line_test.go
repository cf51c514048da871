package request

import (
	"strings"
	"testing"

	"cartulary/api"
)

// places are texts that a line comes behind, with what the beginning of that line is, so that it may be as long as one likes; and what it comes to then.
func places() map[string]struct {
	ahead, begin, end, fill string
	status                  int
} {
	type place = struct {
		ahead, begin, end, fill string
		status                  int
	}
	fifteen := strings.Repeat("x: y\r\n", 15)
	return map[string]place{
		"a path":                   {"", "GET /", " HTTP/1.1", "a", 0},
		"an escaped path":          {"", "GET /aa", " HTTP/1.1", "%41", 0},
		"a query":                  {"", "GET /?", " HTTP/1.1", "=", 0},
		"a method":                 {"", "", " / HTTP/1.1", "Q", 501},
		"no method":                {"", "", " / HTTP/1.1", "q", 400},
		"blanks":                   {"", "GET", "/ HTTP/1.1", " ", 400},
		"nothing":                  {"", "", "", "?", 400},
		"a value":                  {"GET / HTTP/1.1\r\n", "host:", "", "v", 0},
		"a value's layout":         {"GET / HTTP/1.1\r\n", "host:", "x", " ", 0},
		"a value's end":            {"GET / HTTP/1.1\r\n", "host:x", "", "\t", 0},
		"a header's name":          {"GET / HTTP/1.1\r\n", "", ":", "n", 0},
		"no header":                {"GET / HTTP/1.1\r\n", "", "", "n", 400},
		"a header's wrong name":    {"GET / HTTP/1.1\r\n", " ", ":", "n", 400},
		"a header's wrong value":   {"GET / HTTP/1.1\r\n", "a:\x00", "", "n", 400},
		"the sixteenth header":     {"GET / HTTP/1.1\r\n" + fifteen, "", ":", "n", 0},
		"the seventeenth header":   {"GET / HTTP/1.1\r\nx: y\r\n" + fifteen, "", ":", "n", 431},
		"the seventeenth, wrong":   {"GET / HTTP/1.1\r\nx: y\r\n" + fifteen, "", "", "n", 431},
		"a chunk's size":           {chunked(""), "", "", "0", 400},
		"another chunk's size":     {chunked("1|a|"), "", "", "0", 400},
		"behind the last chunk":    {chunked("0|"), "", "", "x", 400},
		"a value of high bytes":    {"GET / HTTP/1.1\r\n", "host:", "", "\xff", 0},
		"a value of long runes":    {"GET / HTTP/1.1\r\n", "host:", "", "é", 0},
		"a line of noughts":        {"", "", "", "\x00", 400},
		"no header, of noughts":    {"GET / HTTP/1.1\r\n", "", "", "\x00", 400},
		"behind the last, noughts": {chunked("0|"), "", "", "\x00", 400},
	}
}

// P18.1: lines of up to 256 bytes; with one byte more 431, as soon as that is there, whatever stands in them and wherever they come.
func TestLongLines(t *testing.T) {
	for name, p := range places() {
		for long := 250; long <= 260; long++ {
			fill := long - len(p.begin) - len(p.end)
			if fill%len(p.fill) != 0 {
				continue
			}
			line := p.begin + strings.Repeat(p.fill, fill/len(p.fill)) + p.end
			if len(line) != long {
				t.Fatal(name)
			}
			if long > 256 {
				isRefused(t, p.ahead+line[:257], 431)
				for _, behind := range []string{"", "\r\n", "\n", "x", tail} {
					if s := agrees(t, p.ahead+line+behind); s != 431 {
						t.Errorf("%s, %d bytes, and %q: %d", name, long, behind, s)
					}
				}
				continue
			}
			needsMore(t, p.ahead+line)
			needsMore(t, p.ahead+line+"\r")
			if s := agrees(t, p.ahead+line+"\r\n"); s != p.status {
				t.Errorf("%s, %d bytes: %d, not %d", name, long, s, p.status)
			}
			// The LF and what follows a CR are no bytes of the line, so they are wrong as such also where it is full.
			isRefused(t, p.ahead+line+"\n", 400)
			isRefused(t, p.ahead+line+"\r\r", 400)
			isRefused(t, p.ahead+line+"\rx", 400)
		}
	}
}

// P18.1: a LF that no CR stands ahead of, and a CR that no LF follows: 400 at once, ahead of all that is wrong with what stands in the line.
func TestLineEnds(t *testing.T) {
	for name, p := range places() {
		for _, fill := range []int{0, 1, 2, 5, 70} {
			line := p.begin + strings.Repeat(p.fill, fill)
			for _, l := range []string{line, line + p.end} {
				isRefused(t, p.ahead+l+"\n", 400)
				for b := range 256 {
					text := p.ahead + l + "\r" + string([]byte{byte(b)})
					if s := agrees(t, text); b != '\n' && s != 400 {
						t.Errorf("%s: %q: %d", name, short(text), s)
					}
				}
				needsMore(t, p.ahead+l+"\r")
				for _, behind := range []string{"\r\n", "\n", "x"} {
					if s := agrees(t, p.ahead+l+"\n"+behind); s != 400 {
						t.Errorf("%s: %d", name, s)
					}
				}
			}
		}
	}
}

// P18.1: a request all of whose lines are as long as they may be, with as many headers as there may be, and as long a body.
func TestLongest(t *testing.T) {
	text := "GET /" + strings.Repeat("a", 242) + " HTTP/1.1\r\nHost:" + strings.Repeat("h", 251) + "\r\n"
	for range 14 {
		text += strings.Repeat("n", 128) + ":" + strings.Repeat("v", 127) + "\r\n"
	}
	for _, last := range []string{"content-length:" + strings.Repeat(" ", 236) + "01000", "transfer-encoding:" + strings.Repeat(" ", 231) + "chunked"} {
		head := text + last + "\r\n\r\n"
		body := strings.Repeat("b", 1000)
		if strings.HasPrefix(last, "t") {
			body = "03e8\r\n" + body + "\r\n0000\r\n\r\n"
		}
		r := whole(t, head+body)
		if len(r.Path) != 243 || len(r.Headers) != 16 || len(r.Body) != 1000 || len(r.Headers[0].Value) != 251 || len(r.Headers[14].Name) != 128 || len(r.Headers[14].Value) != 127 {
			t.Errorf("%+v", r)
		}
	}
	if api.MaxLine != 256 {
		t.Error(api.MaxLine)
	}
}
