package response

import "strings"

// The texts of which a head is made.
const (
	end     = "\r\n"
	version = "HTTP/1.1 "
	length  = "Content-Length: "
	closing = "Connection: close\r\n\r\n" // the last line of what closes, and the empty one
)

type word struct{ text string }

// words are the reasons of all statuses.
func words() map[int]word {
	return map[int]word{
		200: {"OK"},
		400: {"Bad Request"},
		404: {"Not Found"},
		405: {"Method Not Allowed"},
		409: {"Conflict"},
		413: {"Content Too Large"},
		422: {"Unprocessable Content"},
		431: {"Request Header Fields Too Large"},
		501: {"Not Implemented"},
		503: {"Service Unavailable"},
		507: {"Insufficient Storage"},
	}
}

// put is all parts, one behind the other, in new memory.
func put(parts ...string) string {
	n := 0
	for _, x := range parts {
		n += len(x)
	}
	var b strings.Builder
	b.Grow(n)
	for _, x := range parts {
		b.WriteString(x)
	}
	return b.String()
}
