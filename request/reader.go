package request

import (
	"strings"

	"cartulary/api"
)

// status is what a text comes to, of which no request is read.
type status int

const (
	more           status = api.StatusMore
	badRequest     status = 400
	tooLarge       status = 413
	headTooLarge   status = 431
	notImplemented status = 501
)

// need gives up the reading, unless what must be so is so.
func need(ok bool, s status) {
	if !ok {
		panic(s)
	}
}

// reader reads a request, byte by byte: it never looks at a byte ahead of what it needs, so that what it comes to hangs on no byte behind.
type reader struct {
	data    string
	at      int // how many bytes were read
	request api.Request
	body    func() // reads the body, in the way that the head tells
	length  int    // of the body, where the head tells it
}

// next is the next byte.
func (p *reader) next() byte {
	need(p.at < len(p.data), more)
	p.at++
	return p.data[p.at-1]
}

// take is the next bytes: so many.
func (p *reader) take(n int) string {
	need(n <= len(p.data)-p.at, more)
	p.at += n
	return strings.Clone(p.data[p.at-n : p.at])
}

// end reads the LF behind a CR.
func (p *reader) end() { need(p.next() == '\n', badRequest) }

// line is the next line, without the CR and the LF that end it.
func (p *reader) line() string {
	from := p.at
	for {
		b := p.next()
		if b == '\r' {
			break
		}
		need(b != '\n', badRequest)
		need(p.at-from <= api.MaxLine, headTooLarge)
	}
	to := p.at - 1
	p.end()
	return strings.Clone(p.data[from:to])
}
