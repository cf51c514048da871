package sheet

import (
	"strconv"
	"strings"

	"cartulary/api"
)

// mayBe tells what a field may not be, its name ahead of its value.
func mayBe(f api.Field) api.Errno {
	if !Name(f.Name) {
		return api.ErrFormName
	}
	if f.Text && (f.N != 0 || len(f.S) > api.MaxText) || !f.Text && f.S != "" {
		return api.ErrFormValue
	}
	return api.OK
}

// Name tells whether a field may be called so.
func Name(s string) bool {
	if s == "" || len(s) > api.MaxFieldName || !small(s[0]) {
		return false
	}
	for i := range len(s) {
		if !small(s[i]) && !digit(s[i]) && s[i] != '_' {
			return false
		}
	}
	return true
}

func small(c byte) bool { return 'a' <= c && c <= 'z' }

func digit(c byte) bool { return '0' <= c && c <= '9' }

// plain tells whether a byte stands in a text's text as it is.
func plain(c byte) bool {
	return small(c) || 'A' <= c && c <= 'Z' || digit(c) || strings.IndexByte("-._~", c) >= 0
}

// valueText is the text of a value that may be.
func valueText(f api.Field) string {
	if f.Text {
		return "'" + Escape(f.S)
	}
	return strconv.Itoa(f.N)
}

// eachPart hands the parts of a text to take, from the left, till one is wrong: an empty text has none.
func eachPart(text string, take func(part string) api.Errno) api.Errno {
	for more := text != ""; more; {
		var part string
		part, text, more = strings.Cut(text, "&")
		if e := take(part); e != api.OK {
			return e
		}
	}
	return api.OK
}

// readField is the field that a part tells. Its name is a copy, so that the whole text is not kept with it.
func readField(part string) (api.Field, api.Errno) {
	name, value, there := strings.Cut(part, "=")
	if !there || !Name(name) {
		return api.Field{}, api.ErrFormName
	}
	f, ok := readValue(value)
	if !ok {
		return api.Field{}, api.ErrFormValue
	}
	f.Name = strings.Clone(name)
	return f, api.OK
}

// readValue is a field of that value, without a name.
func readValue(value string) (api.Field, bool) {
	if escaped, text := strings.CutPrefix(value, "'"); text {
		s, ok := Unescape(escaped)
		return api.Field{Text: true, S: s}, ok && len(s) <= api.MaxText
	}
	// Atoi takes also what no integer's text is, as +1 and 07, so what it has read is held against what is written of that.
	n, err := strconv.Atoi(value)
	return api.Field{N: n}, err == nil && strconv.Itoa(n) == value
}

// Escape writes a text's bytes; Unescape reads them.
func Escape(s string) string {
	const digits = "0123456789ABCDEF"
	b := make([]byte, 0, len(s))
	for i := range len(s) {
		if c := s[i]; plain(c) {
			b = append(b, c)
		} else {
			b = append(b, '%', digits[c>>4], digits[c&15])
		}
	}
	return string(b)
}

// Unescape is what escaped bytes stand for.
func Unescape(s string) (string, bool) {
	b := make([]byte, 0, len(s))
	for i := 0; i < len(s); i++ {
		c := s[i]
		if c == '%' && i+2 < len(s) {
			high, first := hex(s[i+1])
			low, second := hex(s[i+2])
			if !first || !second {
				return "", false
			}
			c = high<<4 | low
			i += 2
		} else if !plain(c) {
			return "", false
		}
		b = append(b, c)
	}
	return string(b), true
}

// hex is what a hexadecimal digit stands for, a small one too.
func hex(c byte) (byte, bool) {
	switch {
	case digit(c):
		return c - '0', true
	case 'A' <= c && c <= 'F':
		return c - 'A' + 10, true
	case 'a' <= c && c <= 'f':
		return c - 'a' + 10, true
	}
	return 0, false
}
