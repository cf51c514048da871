package sheet

import (
	"fmt"
	"math/rand"
	"strings"
	"testing"
)

// there asks that Escape writes what is to be, and that Unescape is back.
func there(t *testing.T, s, want string) {
	t.Helper()
	if got := Escape(s); got != want || plainEscape(s) != want {
		t.Errorf("Escape(%.99q): %.99q, not %.99q", s, got, want)
	}
	if got, ok := isUnescape(t, want); got != s || !ok {
		t.Errorf("Unescape(%.99q): %.99q, %v", want, got, ok)
	}
}

// P12.6: each byte, alone and among others.
func TestEscapeBytes(t *testing.T) {
	const asTheyAre = "abcdefghijklmnopqrstuvwxyzABCDEFGHIJKLMNOPQRSTUVWXYZ0123456789-._~"
	all, escaped := "", ""
	for c := range 256 {
		it := string([]byte{byte(c)})
		want := fmt.Sprintf("%%%02X", c)
		if bytesHas(asTheyAre, byte(c)) {
			want = it
		}
		there(t, it, want)
		there(t, "a"+it+"b", "a"+want+"b")
		there(t, it+it+"%", want+want+"%25")
		all, escaped = all+it, escaped+want
		for _, s := range []string{fmt.Sprintf("%%%02x", c), fmt.Sprintf("%%%02X", c), fmt.Sprintf("%%%x%X", c>>4, c&15), fmt.Sprintf("%%%X%x", c>>4, c&15)} {
			if got, ok := isUnescape(t, s); got != it || !ok {
				t.Errorf("Unescape(%q): %q, %v", s, got, ok)
			}
		}
		if got, ok := isUnescape(t, it); ok != (want == it) || ok && got != it {
			t.Errorf("Unescape(%q): %q, %v", it, got, ok)
		}
	}
	there(t, all, escaped)
	there(t, "", "")
	there(t, "'", "%27")
	there(t, "x y&é", "x%20y%26%C3%A9")
	there(t, "%41", "%2541")
}

// P12.6: of any length: MaxText is no bound here.
func TestEscapeLengths(t *testing.T) {
	for _, n := range []int{1, 199, 200, 201, 600, 601, 100000} {
		there(t, strings.Repeat("a", n), strings.Repeat("a", n))
		there(t, strings.Repeat(" ", n), strings.Repeat("%20", n))
	}
}

// P12.6: what Read does not take, with an empty text beside false.
func TestUnescapeRefuses(t *testing.T) {
	for _, s := range []string{"%", "%4", "a%", "a%4", "%%", "%%%", "%4g", "%g4", "%4%", "%41%", "%41%4", "abc%zz", "abc+", "'", "'abc", "a b", "é", "a=b", "a&b", "a/b", "%-1", "% 1", "\x00", "\xff", "a\n", "%4\n", strings.Repeat("a", 1000) + "%4", strings.Repeat("a", 1000) + " "} {
		if got, ok := isUnescape(t, s); got != "" || ok {
			t.Errorf("Unescape(%.99q): %.99q, %v", s, got, ok)
		}
	}
}

// P12.6: texts that are drawn, there and back; and such as are drawn near what may be.
func TestDrawnEscapes(t *testing.T) {
	r := rand.New(rand.NewSource(3))
	taken := 0
	for range 30000 {
		b := make([]byte, r.Intn(30))
		r.Read(b)
		there(t, string(b), plainEscape(string(b)))
		if _, ok := isUnescape(t, drawnEscaped(r, r.Intn(12))); ok {
			taken++
		}
		isUnescape(t, drawnBytes(r, r.Intn(6)))
	}
	if taken < 1000 || taken > 29000 {
		t.Errorf("%d were taken", taken)
	}
}

// drawnEscaped is so many bytes and escapes, of which few are wrong.
func drawnEscaped(r *rand.Rand, n int) string {
	s := ""
	for range n {
		s += drawn(r, "a", "Z", "0", "-", ".", "_", "~", "%41", "%c3", "%A9", "%fF", "%00", "%25", "%26", "%20", "%3d")
		if r.Intn(30) == 0 {
			s += drawnBytes(r, 1)
		}
	}
	return s
}
