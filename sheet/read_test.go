package sheet

import (
	"fmt"
	"strings"
	"testing"

	"cartulary/api"
)

// The chapter's examples.
func TestExamples(t *testing.T) {
	if s, e := Write([]api.Field{number("a", -5), text("name", "x y&é")}); s != "a=-5&name='x%20y%26%C3%A9" || e != api.OK {
		t.Errorf("Write: %q, %v", s, e)
	}
	reads(t, "b='%41.&a=7", number("a", 7), text("b", "A."))
	refuses(t, "a=07", api.ErrFormValue)
	refuses(t, "a", api.ErrFormName)
	refuses(t, "A=1", api.ErrFormName)
	refuses(t, "a=1&a=2", api.ErrFormTwice)
	refuses(t, "a=1&", api.ErrFormName)
	refuses(t, "a='%4", api.ErrFormValue)
	refuses(t, "a=9223372036854775808", api.ErrFormValue)
	refuses(t, "a=-0", api.ErrFormValue)
	reads(t, "a='", text("a", ""))
}

// P12.3: integers, as Write writes them and as it does not.
func TestReadIntegers(t *testing.T) {
	for _, n := range []int{0, 1, -1, 9, 10, -10, 99, 100, 1 << 31, 1 << 32, -1 << 32, 999999999999999, api.MaxNumber, -api.MaxNumber, most - 1, most, least + 1, least} {
		reads(t, fmt.Sprintf("a=%d", n), number("a", n))
		refuses(t, fmt.Sprintf("a=0%d", n), api.ErrFormValue)
		refuses(t, fmt.Sprintf("a=-0%d", n), api.ErrFormValue)
		refuses(t, fmt.Sprintf("a=+%d", n), api.ErrFormValue)
		refuses(t, fmt.Sprintf("a=--%d", n), api.ErrFormValue)
		for _, c := range []string{" ", "+", "-", ".", "_", "x", "'", "=", "\x00", "\n", ",", "e1", "%31", "\xd9\xa1"} {
			refuses(t, fmt.Sprintf("a=%d%s", n, c), api.ErrFormValue)
			if c != "-" && c != "'" {
				refuses(t, fmt.Sprintf("a=%s%d", c, n), api.ErrFormValue)
			}
		}
	}
	for _, s := range []string{"", "-", "+", "00", "-00", "-0", "+0", "01", "-01", "+1", "007", "0x1", "0b1", "0o1", "1_0", "1e3", "1.0", "1.", ".1", "1 ", " 1", "--1", "-+1", "nil", "NaN", "Inf", "true", "1f", "0_", "_0", "\xef\xbc\x91"} {
		refuses(t, "a="+s, api.ErrFormValue)
	}
	for _, s := range []string{"9223372036854775808", "-9223372036854775809", "9223372036854775810", "10000000000000000000", "18446744073709551615", "18446744073709551616", "18446744073709551617", "-18446744073709551616", "340282366920938463463374607431768211456"} {
		refuses(t, "a="+s, api.ErrFormValue)
	}
	refuses(t, "a=1"+strings.Repeat("0", 100000), api.ErrFormValue)
	refuses(t, "a="+strings.Repeat("0", 100000), api.ErrFormValue)
	reads(t, "a=9223372036854775807&b=-9223372036854775808", number("a", most), number("b", least))
}

// P12.3: texts of so many bytes, as they are and escaped.
func TestReadTextLengths(t *testing.T) {
	for _, n := range []int{0, 1, 2, 66, 67, 199, 200, 201, 202, 400, 456, 600, 601, 5000} {
		for _, c := range []string{"a", "%61", "%20", "%ff", "%00", "~", "%2e"} {
			s, _ := Unescape(c)
			if n <= 200 {
				reads(t, "a='"+strings.Repeat(c, n), text("a", strings.Repeat(s, n)))
			} else {
				refuses(t, "a='"+strings.Repeat(c, n), api.ErrFormValue)
			}
			refuses(t, "a='"+strings.Repeat(c, n)+"%", api.ErrFormValue)
		}
	}
}

// P12.3: each of the 256 bytes as it is, escaped in capitals, and in small letters, also of those that may stand as they are.
func TestReadBytes(t *testing.T) {
	for c := range 256 {
		it := string([]byte{byte(c)})
		for _, ahead := range []string{"", "x", "%20", strings.Repeat("y", 198)} {
			for _, behind := range []string{"", "z"} {
				low, _ := Unescape(ahead)
				want := text("a", low+it+behind)
				reads(t, fmt.Sprintf("a='%s%%%02X%s", ahead, c, behind), want)
				reads(t, fmt.Sprintf("a='%s%%%02x%s", ahead, c, behind), want)
				if plainEscape(it) == it {
					reads(t, "a='"+ahead+it+behind, want)
				} else if c != '&' {
					refuses(t, "a='"+ahead+it+behind, api.ErrFormValue)
				}
			}
		}
	}
	reads(t, "a='%aB%Ab%AB%ab", text("a", "\xab\xab\xab\xab"))
	reads(t, "a='%2541", text("a", "%41"))
	reads(t, "a='%26b%3D1", text("a", "&b=1"))
	refuses(t, "a=''", api.ErrFormValue)
	refuses(t, "a='x'", api.ErrFormValue)
	refuses(t, "a='x y", api.ErrFormValue)
	refuses(t, "a='x+y", api.ErrFormValue)
	refuses(t, "a='é", api.ErrFormValue)
	refuses(t, "a=%27x", api.ErrFormValue)
	refuses(t, "a=\"x\"", api.ErrFormValue)
	refuses(t, "a=x", api.ErrFormValue)
}

// P12.3: each byte behind a `%`, and escapes that are cut.
func TestReadEscapes(t *testing.T) {
	const digits = "0123456789abcdefABCDEF"
	for c := range 256 {
		it := string([]byte{byte(c)})
		if c == '&' {
			continue
		}
		for _, s := range []string{"a='%" + it, "a='x%" + it, "a='%%" + it, "a='%" + it + "%41"} {
			refuses(t, s, api.ErrFormValue)
		}
		for _, s := range []string{"a='%4" + it, "a='%" + it + "4", "a='xyz%c" + it + "z"} {
			if _, e := isRead(t, s); (e == api.OK) != bytesHas(digits, byte(c)) {
				t.Errorf("Read(%q): %v", s, e)
			}
		}
	}
	for _, s := range []string{"%", "%4", "%%", "%4%", "%%41", "%4%41", "x%", "x%4", "%41%", "%41%4", "%4G", "%G4", "%gg", "% 4", "%4 ", "%-4", "%+4", "%0x41", "%u0041", "%4_", "%\x00\x00"} {
		refuses(t, "a='"+s, api.ErrFormValue)
		refuses(t, "a='"+s+"&b=1", api.ErrFormValue)
		refuses(t, "b=1&a='"+s, api.ErrFormValue)
	}
	// A cut at an `&` is a cut: what is behind it does not make an escape whole.
	refuses(t, "a='%4&1=1", api.ErrFormValue)
	refuses(t, "a='%&41=1", api.ErrFormValue)
}

// P12.3: parts without `=`, with several, and empty ones.
func TestReadParts(t *testing.T) {
	reads(t, "")
	reads(t, "a=1", number("a", 1))
	reads(t, "c=1&b='2&a=3", number("a", 3), text("b", "2"), number("c", 1))
	reads(t, "a1=1&a_=2&a=3&aa=4&a0=5", number("a", 3), number("a0", 5), number("a1", 1), number("a_", 2), number("aa", 4))
	reads(t, "b=1&ab=2&a=3&aab=4", number("a", 3), number("aab", 4), number("ab", 2), number("b", 1))
	for _, s := range []string{"a", "abc", "=", "==", "=1", "='", "=a", "&", "&&", "&a=1", "a=1&", "a=1&&b=2", "a=1&b", "b&a=1", "a=1&=2", "A=1", "a b=1", "%61=1", "a%=1", " a=1", "a =1", "1=1", "_a=1", "\x00=1", "é=1", "a&=1", "'", "'a", "1", "-1", strings.Repeat("a", 33) + "=1", strings.Repeat("a", 100000)} {
		refuses(t, s, api.ErrFormName)
	}
	for _, s := range []string{"a=", "a==", "a==1", "a=1=", "a=1=2", "a=b=1", "a='x=", "a='x=y", "a='=", "a=='x", "a=&b=1", "a=1=1&a=1", "a=b=c=d"} {
		refuses(t, s, api.ErrFormValue)
	}
	reads(t, "a='x%3Dy", text("a", "x=y"))
	for _, s := range []string{"a=1&a=1", "a='x&a='x", "a=1&a='1", "a=1&b=2&a=3", "b=1&a=2&b=3&a=4", "a=1&a=2&A=1", "a=1&a=2&b", "a=1&a=2&"} {
		refuses(t, s, api.ErrFormTwice)
	}
}

// parts are so many, of names that fall.
func parts(n int) []string {
	var l []string
	for i := range n {
		l = append(l, fmt.Sprintf("f%03d=%d", 999-i, i))
	}
	return l
}

// P12.3: 16 parts and 17 of them.
func TestReadMany(t *testing.T) {
	for _, n := range []int{1, 15, 16} {
		r, e := isRead(t, strings.Join(parts(n), "&"))
		if len(r) != n || e != api.OK {
			t.Errorf("%d parts: %+v, %v", n, r, e)
		}
		for i, f := range r {
			if f != number(fmt.Sprintf("f%03d", 999-(n-1-i)), n-1-i) {
				t.Errorf("%d of %d: %+v", i, n, f)
			}
		}
	}
	for _, n := range []int{17, 18, 32, 33, 1000} {
		refuses(t, strings.Join(parts(n), "&"), api.ErrFormMany)
	}
	sixteen := strings.Join(parts(16), "&")
	for _, s := range []string{"", "a", "A=1", "a=x", "a='%4", "f999=1", "&", "=", "z=1"} {
		refuses(t, sixteen+"&"+s, api.ErrFormMany)
		refuses(t, sixteen+"&"+s+"&"+s, api.ErrFormMany)
	}
	refuses(t, strings.Repeat("&", 16), api.ErrFormName)
	refuses(t, strings.Repeat("&", 100000), api.ErrFormName)
	refuses(t, strings.Repeat("a=1&", 100000), api.ErrFormTwice)
}

// P12.3: the first part that is wrong is told, and of it the name ahead of the value, the value ahead of ErrFormTwice.
func TestReadFirst(t *testing.T) {
	wrong := map[string]api.Errno{
		"":         api.ErrFormName,
		"f999":     api.ErrFormName,
		"F=x":      api.ErrFormName,
		"=x":       api.ErrFormName,
		"f999=x":   api.ErrFormValue,
		"f999=01":  api.ErrFormValue,
		"f999='%":  api.ErrFormValue,
		"z=x":      api.ErrFormValue,
		"f999=1":   api.ErrFormTwice,
		"f999='%4": api.ErrFormValue,
		"f999='a":  api.ErrFormTwice,
	}
	for part, want := range wrong {
		for at := 1; at <= 15; at++ {
			for other := range wrong {
				for behind := at + 1; behind < 20; behind += 3 {
					l := parts(20)
					l[at], l[behind] = part, other
					refuses(t, strings.Join(l, "&"), want)
				}
			}
		}
		l := parts(20)
		l[16] = part
		refuses(t, strings.Join(l, "&"), api.ErrFormMany)
	}
}
