package sheet

import (
	"fmt"
	"math/big"
	"math/rand"
	"regexp"
	"slices"
	"strings"
	"testing"

	"cartulary/api"
)

const (
	most  = 1<<63 - 1
	least = -1 << 63
)

// number and text are fields.
func number(name string, n int) api.Field { return api.Field{Name: name, N: n} }

func text(name, s string) api.Field { return api.Field{Name: name, Text: true, S: s} }

// record is so many fields of rising names, by turns an integer and a text.
func record(n int) []api.Field {
	var r []api.Field
	for i := range n {
		f := number(fmt.Sprintf("f%02d", i), i-3)
		if i%2 == 1 {
			f = text(f.Name, fmt.Sprint("text ", i))
		}
		r = append(r, f)
	}
	return r
}

// copied is a list of the same fields, with no room.
func copied(r []api.Field) []api.Field {
	l := make([]api.Field, len(r))
	copy(l, r)
	return l
}

// The plain ones: the chapter's words, each as a whole, by means that the package has not.

var (
	aName    = regexp.MustCompile(`^[a-z][a-z0-9_]{0,31}$`)
	anInt    = regexp.MustCompile(`^(0|-?[1-9][0-9]*)$`)
	aText    = regexp.MustCompile(`^'([A-Za-z0-9._~-]|%[0-9A-Fa-f]{2})*$`)
	anEscape = regexp.MustCompile(`%..`)
)

// plainName is Name. A $ without the flag m is the text's end, not a line's.
func plainName(s string) bool { return aName.MatchString(s) }

// plainField is what a field may not be.
func plainField(f api.Field) api.Errno {
	switch {
	case !plainName(f.Name):
		return api.ErrFormName
	case !f.Text && f.S != "", f.Text && f.N != 0, len(f.S) > 200:
		return api.ErrFormValue
	}
	return api.OK
}

// plainCheck is Check.
func plainCheck(r []api.Field) api.Errno {
	if len(r) > 16 {
		return api.ErrFormMany
	}
	for i, f := range r {
		if e := plainField(f); e != api.OK {
			return e
		}
		if i > 0 && strings.Compare(r[i-1].Name, f.Name) >= 0 {
			return api.ErrFormOrder
		}
	}
	return api.OK
}

// plainEscape is Escape.
func plainEscape(s string) string {
	const asTheyAre = "abcdefghijklmnopqrstuvwxyzABCDEFGHIJKLMNOPQRSTUVWXYZ0123456789-._~"
	var out []byte
	for _, c := range []byte(s) {
		if bytesHas(asTheyAre, c) {
			out = append(out, c)
		} else {
			out = fmt.Appendf(out, "%%%02X", c)
		}
	}
	return string(out)
}

func bytesHas(s string, c byte) bool { return slices.Contains([]byte(s), c) }

// plainUnescape is Unescape.
func plainUnescape(s string) (string, bool) {
	if !aText.MatchString("'" + s) {
		return "", false
	}
	return anEscape.ReplaceAllStringFunc(s, func(x string) string {
		var c byte
		fmt.Sscanf(x[1:], "%x", &c)
		return string([]byte{c})
	}), true
}

// plainWrite is Write.
func plainWrite(r []api.Field) (string, api.Errno) {
	if e := plainCheck(r); e != api.OK {
		return "", e
	}
	out := ""
	for _, f := range r {
		if f.Text {
			out += fmt.Sprintf("&%s='%s", f.Name, plainEscape(f.S))
		} else {
			out += fmt.Sprintf("&%s=%d", f.Name, f.N)
		}
	}
	return strings.TrimPrefix(out, "&"), api.OK
}

// plainRead is Read.
func plainRead(s string) ([]api.Field, api.Errno) {
	var r []api.Field
	if s == "" {
		return nil, api.OK
	}
	for i, part := range strings.Split(s, "&") {
		f, e := plainPart(part)
		if i == 16 {
			e = api.ErrFormMany
		}
		if e == api.OK && slices.ContainsFunc(r, func(g api.Field) bool { return g.Name == f.Name }) {
			e = api.ErrFormTwice
		}
		if e != api.OK {
			return nil, e
		}
		r = append(r, f)
	}
	slices.SortFunc(r, func(a, b api.Field) int { return strings.Compare(a.Name, b.Name) })
	return r, api.OK
}

// plainPart is a part's field.
func plainPart(part string) (api.Field, api.Errno) {
	at := strings.Index(part, "=")
	if at < 0 || !plainName(part[:at]) {
		return api.Field{}, api.ErrFormName
	}
	f, value := api.Field{Name: part[:at]}, part[at+1:]
	if anInt.MatchString(value) {
		n, _ := new(big.Int).SetString(value, 10)
		f.N = int(n.Int64())
		if n.IsInt64() {
			return f, api.OK
		}
	}
	if strings.HasPrefix(value, "'") {
		f.Text = true
		f.S, _ = plainUnescape(value[1:])
		if aText.MatchString(value) && len(f.S) <= 200 {
			return f, api.OK
		}
	}
	return api.Field{}, api.ErrFormValue
}

// plainGet, plainSet and plainDrop are Get, Set and Drop.
func plainGet(r []api.Field, name string) (api.Field, bool) {
	for _, f := range r {
		if f.Name == name {
			return f, true
		}
	}
	return api.Field{}, false
}

func plainSet(r []api.Field, f api.Field) []api.Field {
	for i := range r {
		if r[i].Name == f.Name {
			out := copied(r)
			out[i] = f
			return out
		}
	}
	for i := range r {
		if strings.Compare(r[i].Name, f.Name) > 0 {
			return slices.Insert(copied(r), i, f)
		}
	}
	return append(copied(r), f)
}

func plainDrop(r []api.Field, name string) []api.Field {
	for i := range r {
		if r[i].Name == name {
			return slices.Delete(copied(r), i, i+1)
		}
	}
	return copied(r)
}

// The calls, held against the plain ones, and asked for zero values beside an error or a false.

func isCheck(t *testing.T, r []api.Field, want api.Errno) {
	t.Helper()
	if e := Check(r); e != want || plainCheck(r) != want {
		t.Fatalf("Check(%+v): %v, not %v (%v)", r, e, want, plainCheck(r))
	}
	isWrite(t, r)
}

func isWrite(t *testing.T, r []api.Field) string {
	t.Helper()
	want, ask := plainWrite(r)
	got, e := Write(r)
	if got != want || e != ask {
		t.Fatalf("Write(%+v): %q, %v, not %q, %v", r, got, e, want, ask)
	}
	return got
}

func isRead(t *testing.T, s string) ([]api.Field, api.Errno) {
	t.Helper()
	want, ask := plainRead(s)
	got, e := Read(s)
	if !slices.Equal(got, want) || e != ask {
		t.Fatalf("Read(%q): %+v, %v, not %+v, %v", s, got, e, want, ask)
	}
	return got, e
}

// reads asks for the fields that a text is to tell.
func reads(t *testing.T, s string, want ...api.Field) {
	t.Helper()
	if got, e := isRead(t, s); e != api.OK || !slices.Equal(got, want) {
		t.Errorf("Read(%q): %+v, %v, not %+v", s, got, e, want)
	}
}

// refuses asks for the error of a text.
func refuses(t *testing.T, s string, want api.Errno) {
	t.Helper()
	if got, e := isRead(t, s); e != want || len(got) != 0 {
		t.Errorf("Read(%q): %+v, %v, not %v", s, got, e, want)
	}
}

func isUnescape(t *testing.T, s string) (string, bool) {
	t.Helper()
	want, ask := plainUnescape(s)
	got, ok := Unescape(s)
	if got != want || ok != ask {
		t.Fatalf("Unescape(%q): %q, %v, not %q, %v", s, got, ok, want, ask)
	}
	return got, ok
}

// drawnBytes is so many bytes, of which most are as a text's text has them.
func drawnBytes(r *rand.Rand, n int) string {
	const near = "abzAZFf0189-._~%%%%%'=& +/@[`{:G\x00\x7f\x80\xff\n"
	b := make([]byte, n)
	for i := range b {
		b[i] = near[r.Intn(len(near))]
		if r.Intn(4) == 0 {
			b[i] = byte(r.Intn(256))
		}
	}
	return string(b)
}

// drawn is one of the things.
func drawn[T any](r *rand.Rand, l ...T) T { return l[r.Intn(len(l))] }
