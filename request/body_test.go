package request

import (
	"fmt"
	"strings"
	"testing"
)

// P18.1: of a content-length just so many bytes, whatever they are; of none of the two no body.
func TestCounted(t *testing.T) {
	every := ""
	for b := range 256 {
		every += string([]byte{byte(b)})
	}
	for _, n := range []int{0, 1, 2, 3, 9, 10, 255, 256, 257, 258, 511, 999, 1000} {
		for _, data := range []string{strings.Repeat("b", 1000), strings.Repeat(every, 4), strings.Repeat("\r\n", 500), strings.Repeat("\n", 1000), strings.Repeat(get(), 50)} {
			head := post(fmt.Sprint("Content-Length: ", n))
			if r := whole(t, head+data[:n]); r.Body != data[:n] {
				t.Errorf("%q, not %q", r.Body, data[:n])
			}
			r, k, s := Parse(head + data)
			if s != 200 || k != len(head)+n || r.Body != data[:n] {
				t.Errorf("%d bytes: %d, %d, %q", n, k, s, short(r.Body))
			}
			for i := range n {
				if i < 3 || i > n-3 {
					needsMore(t, head+data[:i])
				}
			}
		}
	}
	for _, head := range []string{get(), post(), post("x: y"), get("content-length: 0")} {
		for _, behind := range []string{"", "abc", "\r\n", "0\r\n\r\n"} {
			r, n, s := Parse(head + behind)
			if s != 200 || n != len(head) || r.Body != "" {
				t.Errorf("%q, %d, %d", r.Body, n, s)
			}
		}
	}
}

// P18.1: of chunks what they carry.
func TestChunks(t *testing.T) {
	for body, want := range map[string]string{
		"0||": "", "00||": "", "000||": "", "0000||": "", "1|a|0||": "a", "01|a|0||": "a", "0001|a|0000||": "a", "2|ab|1|c|0||": "abc", "a|0123456789|0||": "0123456789", "A|0123456789|0||": "0123456789", "0f|0123456789abcde|0||": "0123456789abcde", "0F|0123456789abcde|00||": "0123456789abcde", "10|0123456789abcdef|0||": "0123456789abcdef", "c|0123456789ab|D|0123456789abc|0||": "0123456789ab0123456789abc",
		"2|||0||": "\r\n", "4|\r|\n|0||": "\r\r\n\n", "5|0|||0||": "0\r\n\r\n", "1|\r|0||": "\r", "1|\n|0||": "\n", "3|\x00\xff\x80|0||": "\x00\xff\x80", "1|0|1|0|0||": "00",
	} {
		if r := whole(t, chunked(body)); r.Body != want {
			t.Errorf("%q: %q", body, r.Body)
		}
		head := "GET / HTTP/1.1\r\nTRANSFER-ENCODING: CHUNKED\r\nhost:\r\n\r\n"
		r, n, s := Parse(head + on(body) + "1\r\na\r\n0\r\n\r\n")
		if s != 200 || n != len(head+on(body)) || r.Body != want {
			t.Errorf("%q: %q, %d, %d", body, r.Body, n, s)
		}
	}
}

// P18.1: all sizes together are at most 1000, in one chunk, two, and many; 413 as soon as a size's line is whole.
func TestManyChunks(t *testing.T) {
	chunk := func(n int, byte string) string { return fmt.Sprintf("%x|", n) + strings.Repeat(byte, n) + "|" }
	for n := 990; n <= 1000; n++ {
		for _, body := range []string{chunk(n, "a"), chunk(1, "a") + chunk(n-1, "b"), chunk(n-1, "a") + chunk(1, "b"), chunk(500, "a") + chunk(n-500, "b"), strings.Repeat(chunk(1, "c"), n), strings.Repeat(chunk(10, "d"), n/10) + strings.Repeat(chunk(1, "e"), n%10)} {
			if r := whole(t, chunked(body+"0||")); len(r.Body) != n {
				t.Errorf("%d bytes, not %d", len(r.Body), n)
			}
			isRefused(t, chunked(body+fmt.Sprintf("%x|", 1001-n)), 413)
			if n < 1000 {
				needsMore(t, chunked(body+fmt.Sprintf("%x|", 1000-n)))
			}
		}
	}
	for _, size := range []string{"3e9", "03E9", "3ea", "400", "0400", "7fff", "8000", "FFFF", "ffff", "fff", "1000"} {
		isRefused(t, chunked(size+"|"), 413)
		isRefused(t, chunked("1|a|"+size+"|"), 413)
	}
	for _, size := range []string{"3e8", "03e8", "3E8", "3e7", "1"} {
		needsMore(t, chunked(size+"|"))
	}
	isRefused(t, chunked("3e8|"+strings.Repeat("a", 1000)+"|1|"), 413)
	isRefused(t, chunked("3e8|"+strings.Repeat("a", 1000)+"|ffff|"), 413)
}

// P18.1: a chunk's size is a line of one to four hexadecimal digits: nothing else, and no more of them.
func TestSizes(t *testing.T) {
	for _, size := range []string{"", " ", "0 ", " 0", "\t0", "1;x=y", "0;", "1,", "+1", "-1", "-0", "0x1", "g", "G", "1g", "g1", "/", ":", "@", "`", "1_0", "1.0", "00000", "00001", "10000", "0003e8", "ffffffff", "x", "\x00", "é", "\x80", "１", strings.Repeat("0", 256)} {
		isRefused(t, chunked(size+"|"), 400)
		isRefused(t, chunked("1|a|"+size+"|"), 400)
	}
	for b := range 256 {
		x := string([]byte{byte(b)})
		for _, size := range []string{x, "0" + x, x + "0", "00" + x + "1"} {
			for _, behind := range []string{"\r\n", "\r\n\r\n", "\r\n0123456789abcdef\r\n0\r\n\r\n"} {
				agrees(t, chunked("")+size+behind)
			}
		}
	}
}

// P18.1: CR and LF behind a chunk's bytes: 400 as soon as one of these is another byte.
func TestBehindChunks(t *testing.T) {
	for b := range 256 {
		x := string([]byte{byte(b)})
		for _, n := range []int{1, 2, 10, 300} {
			ahead := chunked(fmt.Sprintf("%x|", n) + strings.Repeat("a", n))
			if b != '\r' {
				isRefused(t, ahead+x, 400)
			}
			if b != '\n' {
				isRefused(t, ahead+"\r"+x, 400)
			}
			for _, text := range []string{x, "\r" + x} {
				for _, behind := range []string{"\n", "\r\n", "\n0\r\n\r\n", "0\r\n\r\n"} {
					agrees(t, ahead+text+behind)
				}
			}
		}
	}
	needsMore(t, chunked("1|"))
	needsMore(t, chunked("1|a"))
	needsMore(t, chunked("1|a\r"))
	needsMore(t, chunked("1|a|"))
	isRefused(t, chunked("1|ab"), 400)
	isRefused(t, chunked("2|a|"), 400)
	isRefused(t, chunked("1||"), 400)
}

// P18.1: behind the last chunk a line, which must be empty: 400 with the line's last byte.
func TestBehindLastChunk(t *testing.T) {
	for _, line := range []string{"x", " ", "\t", "a: b", "0", "\x00", strings.Repeat("t", 256)} {
		isRefused(t, chunked("0|"+line+"|"), 400)
		isRefused(t, chunked("1|a|00|"+line+"|"), 400)
		needsMore(t, chunked("0|"+line))
	}
	needsMore(t, chunked("0"))
	needsMore(t, chunked("0|"))
	needsMore(t, chunked("0|\r"))
	isRefused(t, chunked("0|\n"), 400)
	isRefused(t, chunked("0|\r\r"), 400)
	isRefused(t, chunked("0\n"), 400)
	isRefused(t, chunked("0|")+strings.Repeat("x", 257), 431)
}
