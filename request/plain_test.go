package request

import (
	"regexp"
	"strconv"
	"strings"

	"cartulary/api"
)

// A plain account of what a text comes to, by regular expressions. They go by runes, so a text's bytes are made runes of these numbers first.

var (
	oneLine = regexp.MustCompile(`(?s)^([^\r\n]{0,256})\r\n`)
	within  = regexp.MustCompile(`(?s)^[^\r\n]{0,256}\r?$`)
	long    = regexp.MustCompile(`(?s)^[^\r\n]{257}`)

	firstLine  = regexp.MustCompile(`^([A-Z]+) (/(?:[A-Za-z0-9\-._~/]|%[0-9A-Fa-f][0-9A-Fa-f])*)(?:\?((?:[A-Za-z0-9\-._~/=&']|%[0-9A-Fa-f][0-9A-Fa-f])*))? HTTP/1\.1$`)
	headerLine = regexp.MustCompile("^([A-Za-z0-9!#$%&'*+\\-.^_`|~]+):([\\t\\x20-\\x7e\\x{80}-\\x{ff}]*)$")
	inside     = regexp.MustCompile(`(?s)^[ \t]*(.*?)[ \t]*$`)
	nineDigits = regexp.MustCompile(`^[0-9]{1,9}$`)
	fourDigits = regexp.MustCompile(`^[0-9A-Fa-f]{1,4}$`)
	isClose    = regexp.MustCompile(`(?s)(?:^|,)[ \t]*[cC][lL][oO][sS][eE][ \t]*(?:,|$)`)
	isChunked  = regexp.MustCompile(`^[cC][hH][uU][nN][kK][eE][dD]$`)
)

func runes(s string) string {
	var b strings.Builder
	for i := range len(s) {
		b.WriteRune(rune(s[i]))
	}
	return b.String()
}

func bytesOf(s string) string {
	var b strings.Builder
	for _, r := range s {
		b.WriteByte(byte(r))
	}
	return b.String()
}

// plainLine is the line at a text's beginning, and what stands behind it; or what it comes to.
func plainLine(s string) (string, string, int) {
	switch m := oneLine.FindStringSubmatch(s); {
	case m != nil:
		return m[1], s[len(m[0]):], 200
	case within.MatchString(s):
		return "", "", 0
	case long.MatchString(s):
		return "", "", 431
	}
	return "", "", 400
}

// plain is what a text comes to.
func plain(data string) (api.Request, int, int) {
	r, left, status := plainHead(runes(data))
	if status != 200 {
		return api.Request{}, 0, status
	}
	body, left, status := plainBody(r.Headers, left)
	if status != 200 {
		return api.Request{}, 0, status
	}
	r.Body = bytesOf(body)
	return r, len(data) - len(bytesOf(left)), 200
}

func plainHead(s string) (r api.Request, left string, status int) {
	l, s, status := plainLine(s)
	if status != 200 {
		return r, "", status
	}
	m := firstLine.FindStringSubmatch(l)
	if m == nil {
		return r, "", 400
	}
	if m[1] != "GET" && m[1] != "POST" {
		return r, "", 501
	}
	r.Method, r.Path, r.Query = m[1], m[2], m[3]
	for {
		l, s, status = plainLine(s)
		if status != 200 {
			return r, "", status
		}
		if l == "" {
			return r, s, 200
		}
		if len(r.Headers) == 16 {
			return r, "", 431
		}
		m := headerLine.FindStringSubmatch(l)
		if m == nil {
			return r, "", 400
		}
		h := api.Header{Name: strings.ToLower(m[1]), Value: bytesOf(inside.FindStringSubmatch(m[2])[1])}
		r.Headers = append(r.Headers, h)
		r.Close = r.Close || h.Name == "connection" && isClose.MatchString(runes(h.Value))
	}
}

// named are the values of all headers of a name.
func named(l []api.Header, name string) []string {
	var values []string
	for _, h := range l {
		if h.Name == name {
			values = append(values, h.Value)
		}
	}
	return values
}

func plainBody(l []api.Header, s string) (body, left string, status int) {
	encodings, lengths := named(l, "transfer-encoding"), named(l, "content-length")
	switch {
	case len(named(l, "host")) != 1, len(encodings) > 0 && len(lengths) > 0:
		return "", "", 400
	case len(encodings) > 1, len(encodings) == 1 && !isChunked.MatchString(runes(encodings[0])):
		return "", "", 501
	case len(encodings) == 1:
		return plainChunks(s)
	case len(lengths) == 0:
		return "", s, 200
	case len(lengths) > 1 || !nineDigits.MatchString(runes(lengths[0])):
		return "", "", 400
	}
	n, _ := strconv.Atoi(lengths[0])
	switch r := []rune(s); {
	case n > 1000:
		return "", "", 413
	case len(r) < n:
		return "", "", 0
	default:
		return string(r[:n]), string(r[n:]), 200
	}
}

func plainChunks(s string) (body, left string, status int) {
	size := 0
	for {
		l, behind, status := plainLine(s)
		if status != 200 {
			return "", "", status
		}
		if !fourDigits.MatchString(l) {
			return "", "", 400
		}
		n, _ := strconv.ParseUint(l, 16, 16)
		size += int(n)
		if size > 1000 {
			return "", "", 413
		}
		if n == 0 {
			return plainEnd(body, behind)
		}
		r := []rune(behind)
		if len(r) < int(n) {
			return "", "", 0
		}
		body += string(r[:n])
		s = string(r[n:])
		if len(s) < 2 && strings.HasPrefix("\r\n", s) {
			return "", "", 0
		}
		if !strings.HasPrefix(s, "\r\n") {
			return "", "", 400
		}
		s = s[2:]
	}
}

func plainEnd(body, s string) (string, string, int) {
	l, left, status := plainLine(s)
	if status == 200 && l != "" {
		status = 400
	}
	if status != 200 {
		return "", "", status
	}
	return body, left, 200
}
