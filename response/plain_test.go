package response

import (
	"regexp"
	"strconv"
	"strings"

	"cartulary/api"
)

// A plain account: what is written is put together by a pattern; what is read is found by trying all that could have been written.

var plainWords = []struct {
	status int
	reason string
}{
	{200, "OK"}, {400, "Bad Request"}, {404, "Not Found"}, {405, "Method Not Allowed"}, {409, "Conflict"}, {413, "Content Too Large"}, {422, "Unprocessable Content"}, {431, "Request Header Fields Too Large"}, {501, "Not Implemented"}, {503, "Service Unavailable"}, {507, "Insufficient Storage"},
}

func plainReason(status int) string {
	for _, w := range plainWords {
		if w.status == status {
			return w.reason
		}
	}
	return ""
}

// plainHead is a head ahead of a body of so many bytes.
func plainHead(status, length int, closes bool) string {
	line := ""
	if closes {
		line = "Connection: close\r\n"
	}
	return "HTTP/1.1 " + strconv.Itoa(status) + " " + plainReason(status) + "\r\nContent-Length: " + strconv.Itoa(length) + "\r\n" + line + "\r\n"
}

func plainWrite(r api.Reply) string {
	return plainHead(r.Status, len(r.Body), r.Close) + r.Body
}

var told = regexp.MustCompile(`Content-Length: ([0-9]{1,6})`)

// plainRead is what a text begins with. A length that the text tells is the only one that can have been written; where it tells none, or where it ends within, any that begins so will do: it is one itself.
func plainRead(text string) (api.Reply, int, api.Errno) {
	length := 0
	if m := told.FindStringSubmatch(text); m != nil {
		length, _ = strconv.Atoi(m[1])
	}
	if length > 100000 {
		return api.Reply{}, 0, api.ErrReplyForm
	}
	e := api.ErrReplyForm
	for _, w := range plainWords {
		for _, closes := range []bool{false, true} {
			head := plainHead(w.status, length, closes)
			body, is := strings.CutPrefix(text, head)
			switch {
			case is && len(body) >= length:
				return api.Reply{Status: w.status, Body: body[:length], Close: closes}, len(head) + length, api.OK
			case is, strings.HasPrefix(head, text):
				e = api.ErrReplyShort
			}
		}
	}
	return api.Reply{}, 0, e
}

func plainAll(text string) ([]api.Reply, int) {
	r, n, e := plainRead(text)
	if e != api.OK {
		return nil, 0
	}
	l, m := plainAll(text[n:])
	return append([]api.Reply{r}, l...), n + m
}
