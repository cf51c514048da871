package request

import (
	"strconv"
	"strings"

	"cartulary/api"
)

// first reads the first line.
func (p *reader) first() {
	l := strings.Split(p.line(), " ")
	need(len(l) == 3 && isMethod(l[0]) && isTarget(l[1]) && l[2] == "HTTP/1.1", badRequest)
	need(l[0] == "GET" || l[0] == "POST", notImplemented)
	p.request.Method = l[0]
	p.request.Path, p.request.Query, _ = strings.Cut(l[1], "?")
}

// headers reads the header lines, and the empty one behind them.
func (p *reader) headers() {
	for l := p.line(); l != ""; l = p.line() {
		need(len(p.request.Headers) < api.MaxHeaders, headTooLarge)
		name, value, there := strings.Cut(l, ":")
		need(there && isToken(name) && isValue(value), badRequest)
		p.request.Headers = append(p.request.Headers, api.Header{Name: small(name), Value: bare(value)})
	}
}

// head judges the head as a whole: it tells how the body is to be read.
func (p *reader) head() {
	_, hosts := Get(p.request, "host")
	encoding, encodings := Get(p.request, "transfer-encoding")
	length, lengths := Get(p.request, "content-length")
	need(hosts == 1, badRequest)
	switch {
	case encodings > 0:
		need(lengths == 0, badRequest)
		need(encodings == 1 && small(encoding) == "chunked", notImplemented)
		p.body = p.chunks
	case lengths > 0:
		need(lengths == 1 && isLength(length), badRequest)
		p.length, _ = strconv.Atoi(length)
		need(p.length <= api.MaxBody, tooLarge)
		p.body = p.counted
	default:
		p.body = p.nothing
	}
	p.request.Close = closes(p.request.Headers)
}

// closes tells whether a header asks for the connection to be closed.
func closes(l []api.Header) bool {
	for _, h := range l {
		if h.Name != "connection" {
			continue
		}
		for _, part := range strings.Split(h.Value, ",") {
			if small(bare(part)) == "close" {
				return true
			}
		}
	}
	return false
}

// nothing reads a body that there is not.
func (p *reader) nothing() {}

// counted reads a body whose length the head has told.
func (p *reader) counted() { p.request.Body = p.take(p.length) }

// chunks reads a body of chunks, up to the empty line behind the last one.
func (p *reader) chunks() {
	var b strings.Builder
	for n := p.size(); n > 0; n = p.size() {
		need(b.Len()+n <= api.MaxBody, tooLarge)
		b.WriteString(p.take(n))
		need(p.next() == '\r', badRequest)
		p.end()
	}
	need(p.line() == "", badRequest)
	p.request.Body = b.String()
}

// size reads the line that tells a chunk's size.
func (p *reader) size() int {
	l := p.line()
	need(isSize(l), badRequest)
	n, _ := strconv.ParseInt(l, 16, 0)
	return int(n)
}
