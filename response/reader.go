package response

import (
	"maps"
	"slices"
	"strconv"
	"strings"

	"cartulary/api"
)

// reader reads a reply, part by part. Behind the first thing that it doesn't find it takes nothing more, so that the first error is the one that is told.
type reader struct {
	rest string
	e    api.Errno
}

// stop tells the first error.
func (p *reader) stop(e api.Errno) {
	if p.e == api.OK {
		p.e = e
	}
}

// take takes the one of some texts that stands next, and is its number among them. None of them may begin with another one.
func (p *reader) take(wants ...string) int {
	if p.e != api.OK {
		return 0
	}
	p.e = api.ErrReplyForm
	for i, want := range wants {
		if strings.HasPrefix(p.rest, want) {
			p.rest = p.rest[len(want):]
			p.e = api.OK
			return i
		}
		if strings.HasPrefix(want, p.rest) {
			p.e = api.ErrReplyShort
		}
	}
	return 0
}

// reply takes a whole reply.
func (p *reader) reply() api.Reply {
	p.take(version)
	status := p.status()
	p.take(put(" ", Reason(status), end, length))
	n := p.number()
	p.take(end)
	closes := p.take(end, closing) == 1
	return api.Reply{Status: status, Body: p.body(n), Close: closes}
}

// status takes a status that has a reason.
func (p *reader) status() int {
	statuses := slices.Sorted(maps.Keys(words()))
	var texts []string
	for _, x := range statuses {
		texts = append(texts, strconv.Itoa(x))
	}
	return statuses[p.take(texts...)]
}

// number takes a body's length, as it is written: without a 0 ahead of other digits.
func (p *reader) number() int {
	n, i := 0, 0
	for i < len(p.rest) && isDigit(p.rest[i]) && (n > 0 || i == 0) && n <= api.MaxReply {
		n = 10*n + int(p.rest[i]-'0')
		i++
	}
	if i == 0 && p.rest != "" || n > api.MaxReply {
		p.stop(api.ErrReplyForm)
	}
	p.rest = p.rest[i:]
	return n
}

func isDigit(b byte) bool { return '0' <= b && b <= '9' }

// body takes so many bytes.
func (p *reader) body(n int) string {
	if n > len(p.rest) {
		p.stop(api.ErrReplyShort)
	}
	if p.e != api.OK {
		return ""
	}
	body := strings.Clone(p.rest[:n])
	p.rest = p.rest[n:]
	return body
}
