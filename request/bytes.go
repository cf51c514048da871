package request

import "strings"

func isSmall(b byte) bool   { return 'a' <= b && b <= 'z' }
func isCapital(b byte) bool { return 'A' <= b && b <= 'Z' }
func isDigit(b byte) bool   { return '0' <= b && b <= '9' }
func isLetter(b byte) bool  { return isSmall(b) || isCapital(b) }

func isHex(b byte) bool { return isDigit(b) || 'a' <= b && b <= 'f' || 'A' <= b && b <= 'F' }

func isPlain(b byte) bool { return isLetter(b) || isDigit(b) || strings.IndexByte("-._~", b) >= 0 }

func isTokenByte(b byte) bool {
	return isLetter(b) || isDigit(b) || strings.IndexByte("!#$%&'*+-.^_`|~", b) >= 0
}

func isValueByte(b byte) bool { return b == '\t' || ' ' <= b && b <= '~' || b > 127 }

// all tells whether all of a text's bytes are of a kind.
func all(s string, is func(b byte) bool) bool {
	for i := range len(s) {
		if !is(s[i]) {
			return false
		}
	}
	return true
}

func isMethod(s string) bool { return s != "" && all(s, isCapital) }

func isToken(s string) bool { return s != "" && all(s, isTokenByte) }

func isValue(s string) bool { return all(s, isValueByte) }

func isLength(s string) bool { return 1 <= len(s) && len(s) <= 9 && all(s, isDigit) }

func isSize(s string) bool { return 1 <= len(s) && len(s) <= 4 && all(s, isHex) }

// isTarget tells whether a request may ask for that.
func isTarget(s string) bool {
	path, query, _ := strings.Cut(s, "?")
	return strings.HasPrefix(path, "/") && isOf(path, "/") && isOf(query, "/=&'")
}

// isOf tells whether a text is of plain and escaped bytes, and some that stand for themselves.
func isOf(s string, others string) bool {
	for i := 0; i < len(s); i++ {
		switch {
		case isPlain(s[i]) || strings.IndexByte(others, s[i]) >= 0:
		case s[i] == '%' && i+2 < len(s) && isHex(s[i+1]) && isHex(s[i+2]):
			i += 2
		default:
			return false
		}
	}
	return true
}

// small is a text in small letters. Letters are those of ASCII: another script's may have such a one as their small letter.
func small(s string) string {
	b := []byte(s)
	for i, x := range b {
		if isCapital(x) {
			b[i] = x - 'A' + 'a'
		}
	}
	return string(b)
}

// bare is a text without layout at its ends.
func bare(s string) string { return strings.Trim(s, " \t") }
