package sheet

import (
	"fmt"
	"math/rand"
	"slices"
	"strings"
	"testing"

	"cartulary/api"
)

// drawnName is a name that may be.
func drawnName(r *rand.Rand) string {
	const others = "abyz019_"
	b := []byte{drawn(r, []byte("abyz")...)}
	for range drawn(r, 0, 1, 1, 2, 2, 3, 30, 31) {
		b = append(b, others[r.Intn(len(others))])
	}
	return string(b)
}

// drawnField is a field that may be.
func drawnField(r *rand.Rand) api.Field {
	if r.Intn(2) == 0 {
		n := drawn(r, 0, 1, -1, most, least, r.Intn(1000), -r.Intn(1000), int(r.Uint64()))
		return number(drawnName(r), n)
	}
	return text(drawnName(r), drawnBytes(r, drawn(r, 0, 1, 2, 5, 10, 199, 200)))
}

// drawnRecord is a record of 0 to 16 fields.
func drawnRecord(r *rand.Rand) []api.Field {
	n := drawn(r, 0, 1, 2, 3, 8, 15, 16, 16)
	by := map[string]api.Field{}
	for len(by) < n {
		f := drawnField(r)
		by[f.Name] = f
	}
	var l []api.Field
	for _, f := range by {
		l = append(l, f)
	}
	slices.SortFunc(l, func(a, b api.Field) int { return strings.Compare(a.Name, b.Name) })
	return l
}

// spoilt is a list with one thing changed, mostly to something wrong.
func spoilt(r *rand.Rand, l []api.Field) []api.Field {
	l = copied(l)
	if len(l) == 0 {
		return append(l, drawnField(r))
	}
	i, j := r.Intn(len(l)), r.Intn(len(l))
	switch r.Intn(8) {
	case 0:
		l[i].Name = drawn(r, "", "A", "1a", "_", "a-", "a.b", strings.Repeat("a", 33), "é", "a\x00", "a=", "&")
	case 1:
		l[i].S += drawn(r, "x", strings.Repeat("x", 201))
	case 2:
		l[i].N++
	case 3:
		l[i].Text = !l[i].Text
	case 4:
		l[i], l[j] = l[j], l[i]
	case 5:
		l[i].Name = l[j].Name
	case 6:
		l = slices.Insert(l, i, drawnField(r))
	case 7:
		l = append(l, number("zzz", 1))
	}
	return l
}

// P12.1, P12.2, P12.5: records that are drawn, and such as are spoilt once or more often.
func TestDrawnRecords(t *testing.T) {
	r := rand.New(rand.NewSource(4))
	told := map[api.Errno]int{}
	for range 8000 {
		l := drawnRecord(r)
		isCheck(t, l, api.OK)
		s := isWrite(t, l)
		if got, e := isRead(t, s); !slices.Equal(got, l) || e != api.OK {
			t.Fatalf("Read(%q): %+v, %v", s, got, e)
		}
		for range 1 + r.Intn(3) {
			l = spoilt(r, l)
			isCheck(t, l, plainCheck(l))
			told[Check(l)]++
		}
	}
	for _, e := range []api.Errno{api.OK, api.ErrFormMany, api.ErrFormName, api.ErrFormValue, api.ErrFormOrder} {
		if told[e] < 300 {
			t.Errorf("%v was told %d times", e, told[e])
		}
	}
}

// drawnPart is a name that parts of other numbers seldom have, and a value as Read takes it; seldom one of the two is wrong.
func drawnPart(r *rand.Rand, number int) string {
	name := fmt.Sprint(drawn(r, "a", "b", "a_", "zz", "a0_"), number)
	if r.Intn(40) == 0 {
		name = drawn(r, "a0", "b1", "zz2")
	}
	value := drawn(r, "0", "-1", "12", "9223372036854775807", "'", "'"+drawnEscaped(r, r.Intn(9)), "'"+drawnEscaped(r, r.Intn(9)))
	switch r.Intn(40) {
	case 0:
		name = drawn(r, "", "A", "1", "a-", "%61", strings.Repeat("a", 33))
	case 1:
		value = drawn(r, "", "00", "-0", "+1", "9223372036854775808", "-9223372036854775809", "x", "'x y", "'%4", "'"+strings.Repeat("%41", 201), "1=1")
	case 2:
		return drawn(r, "", name, value)
	case 3:
		value = "'" + strings.Repeat(drawn(r, "a", "%41", "%c3"), drawn(r, 199, 200, 201))
	}
	return name + "=" + value
}

// P12.3, P12.5: texts that are drawn, most of them such as Read takes; what it reads is written, and read as the same.
func TestDrawnTexts(t *testing.T) {
	r := rand.New(rand.NewSource(5))
	told := map[api.Errno]int{}
	for range 40000 {
		var l []string
		for i := range drawn(r, 0, 1, 2, 3, 5, 8, 15, 16, 17, 18) {
			l = append(l, drawnPart(r, i))
		}
		r.Shuffle(len(l), func(i, j int) { l[i], l[j] = l[j], l[i] })
		told[readsBack(t, strings.Join(l, "&"))]++
	}
	for _, e := range []api.Errno{api.OK, api.ErrFormMany, api.ErrFormName, api.ErrFormValue, api.ErrFormTwice} {
		if told[e] < 300 {
			t.Errorf("%v was told %d times", e, told[e])
		}
	}
}

// readsBack asks what Read reads to be a record, and to be read as the same when it is written.
func readsBack(t *testing.T, s string) api.Errno {
	t.Helper()
	got, e := isRead(t, s)
	if e != api.OK {
		return e
	}
	isCheck(t, got, api.OK)
	written := isWrite(t, got)
	if again, e := Read(written); !slices.Equal(again, got) || e != api.OK {
		t.Fatalf("Read(%q), of %q: %+v, %v", written, s, again, e)
	}
	return api.OK
}

// P12.3, R1: texts of any bytes, and texts of records of which some bytes are others, are gone or are there twice.
func TestDrawnJunk(t *testing.T) {
	r := rand.New(rand.NewSource(6))
	for i := range 40000 {
		s := drawnBytes(r, r.Intn(12))
		if i%2 == 0 {
			s, _ = Write(drawnRecord(r))
			for range r.Intn(3) {
				at := r.Intn(len(s) + 1)
				s = s[:at] + drawn(r, "", drawnBytes(r, 1), "&", "=", "%") + s[min(len(s), at+r.Intn(3)):]
			}
		}
		readsBack(t, s)
	}
}

// P12.3: all short texts of the bytes that matter.
func TestShortTexts(t *testing.T) {
	taken := 0
	var try func(s string, left int)
	try = func(s string, left int) {
		if readsBack(t, s) == api.OK {
			taken++
		}
		if left == 0 {
			return
		}
		for _, c := range "aA01-_'%=& " {
			try(s+string(c), left-1)
		}
	}
	try("", 6)
	if taken < 100 {
		t.Errorf("only %d were taken", taken)
	}
}
