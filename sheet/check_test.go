package sheet

import (
	"slices"
	"strings"
	"testing"

	"cartulary/api"
)

// The errors' numbers and the limits.
func TestNumbers(t *testing.T) {
	for e, want := range map[api.Errno]int{api.ErrFormMany: 120, api.ErrFormName: 121, api.ErrFormValue: 122, api.ErrFormOrder: 123, api.ErrFormTwice: 124} {
		if int(e) != want {
			t.Errorf("%d, not %d", int(e), want)
		}
	}
	if api.MaxFields != 16 || api.MaxFieldName != 32 || api.MaxText != 200 {
		t.Errorf("%d, %d, %d", api.MaxFields, api.MaxFieldName, api.MaxText)
	}
}

// isName asks for a name wherever one may stand.
func isName(t *testing.T, s string, want bool) {
	t.Helper()
	if Name(s) != want || plainName(s) != want {
		t.Errorf("Name(%q): %v, not %v (%v)", s, Name(s), want, plainName(s))
	}
	e := api.OK
	if !want {
		e = api.ErrFormName
	}
	isCheck(t, []api.Field{number(s, 1)}, e)
	isCheck(t, []api.Field{text(s, "x")}, e)
	if !strings.ContainsAny(s, "=&") {
		_, got := isRead(t, s+"=1")
		_, quoted := isRead(t, s+"='x")
		if got != e || quoted != e {
			t.Errorf("Read of the name %q: %v, %v, not %v", s, got, quoted, e)
		}
	}
}

// P12.1: names of each length about the edges.
func TestNameLengths(t *testing.T) {
	for _, n := range []int{0, 1, 2, 30, 31, 32, 33, 34, 64, 288, 1000} {
		isName(t, strings.Repeat("a", n), n >= 1 && n <= 32)
		if n > 0 {
			isName(t, "z"+strings.Repeat("_", n-1), n <= 32)
			isName(t, strings.Repeat("m", n-1)+"9", n >= 2 && n <= 32)
			isName(t, strings.Repeat("m", n-1)+"A", false)
		}
	}
	isName(t, strings.Repeat("é", 16), false)
}

// P12.1: each byte as the first one, in the middle, and as the last one.
func TestNameBytes(t *testing.T) {
	const smalls, digits = "abcdefghijklmnopqrstuvwxyz", "0123456789"
	for c := range 256 {
		s := string([]byte{byte(c)})
		first := bytesHas(smalls, byte(c))
		isName(t, s, first)
		isName(t, s+"a", first)
		isName(t, s+strings.Repeat("a", 31), first)
		isName(t, s+strings.Repeat("a", 32), false)
		other := bytesHas(smalls+digits+"_", byte(c))
		isName(t, "a"+s, other)
		isName(t, "a"+s+"a", other)
		isName(t, strings.Repeat("b", 31)+s, other)
		isName(t, strings.Repeat("b", 32)+s, false)
		isName(t, "_"+s, false)
		isName(t, "0"+s, false)
	}
}

// P12.1: so many fields.
func TestCheckMany(t *testing.T) {
	for _, n := range []int{0, 1, 2, 15, 16, 17, 18, 272, 1000} {
		want := api.OK
		if n > 16 {
			want = api.ErrFormMany
		}
		isCheck(t, record(n), want)
	}
	isCheck(t, nil, api.OK)
	isCheck(t, []api.Field{}, api.OK)
	isCheck(t, record(20)[:16], api.OK)
	isCheck(t, make([]api.Field, 16), api.ErrFormName)
	isCheck(t, make([]api.Field, 17), api.ErrFormMany)
}

// P12.1: values of each kind.
func TestCheckValue(t *testing.T) {
	for _, n := range []int{0, 1, -1, 9, 10, most, least, most - 1, least + 1, 1 << 32, api.MaxNumber + 1} {
		isCheck(t, []api.Field{number("a", n)}, api.OK)
		isCheck(t, []api.Field{{Name: "a", N: n, S: "x"}}, api.ErrFormValue)
		isCheck(t, []api.Field{{Name: "a", N: n, S: "\x00"}}, api.ErrFormValue)
		want := api.ErrFormValue
		if n == 0 {
			want = api.OK
		}
		isCheck(t, []api.Field{{Name: "a", Text: true, N: n}}, want)
		isCheck(t, []api.Field{{Name: "a", Text: true, N: n, S: "x"}}, want)
	}
	for _, n := range []int{0, 1, 199, 200, 201, 202, 400, 456, 1000} {
		want := api.OK
		if n > 200 {
			want = api.ErrFormValue
		}
		for _, s := range []string{"a", " ", "\x00", "\xff"} {
			isCheck(t, []api.Field{text("a", strings.Repeat(s, n))}, want)
		}
	}
	isCheck(t, []api.Field{text("a", strings.Repeat("é", 100))}, api.OK)
	isCheck(t, []api.Field{text("a", strings.Repeat("é", 100)+"x")}, api.ErrFormValue)
}

// P12.1: names rise, byte by byte.
func TestCheckOrder(t *testing.T) {
	long := strings.Repeat("a", 31)
	for _, l := range [][]string{{"a", "b"}, {"a", "aa"}, {"a", "a0"}, {"a0", "a1"}, {"a9", "a_"}, {"a_", "aa"}, {"a10", "a9"}, {"a", "a_"}, {"ab", "b"}, {long, long + "a"}, {long + "a", long + "b"}, {"y", "z"}} {
		low, high := l[0], l[1]
		isCheck(t, []api.Field{number(low, 1), number(high, 1)}, api.OK)
		isCheck(t, []api.Field{number(high, 1), number(low, 1)}, api.ErrFormOrder)
		isCheck(t, []api.Field{number(high, 1), text(low, "")}, api.ErrFormOrder)
		isCheck(t, []api.Field{text(low, ""), number(low, 1)}, api.ErrFormOrder)
		isCheck(t, []api.Field{text(low, ""), number(high, 1), text(low, "")}, api.ErrFormOrder)
		isCheck(t, []api.Field{text(low, ""), number(high, 1), text(high, "")}, api.ErrFormOrder)
	}
	for i := range 15 {
		r := record(16)
		r[i], r[i+1] = r[i+1], r[i]
		isCheck(t, r, api.ErrFormOrder)
		r[i] = r[i+1]
		isCheck(t, r, api.ErrFormOrder)
	}
}

// P12.1: of several things that are wrong the first one named is answered: the number of fields, the first field, its name, its value, its order.
func TestCheckFirst(t *testing.T) {
	wrong := map[api.Errno][]api.Field{
		api.ErrFormName:  {{Name: "A"}, {Name: "", S: "x"}, {Name: "0", Text: true, N: 1}, {Name: "a-", Text: true, S: strings.Repeat("x", 201)}},
		api.ErrFormValue: {{Name: "a", S: "x"}, {Name: "f99", S: "x"}, {Name: "a", Text: true, N: 1}, {Name: "f99", Text: true, S: strings.Repeat("x", 201)}, {Name: "f00", S: "x"}},
		api.ErrFormOrder: {{Name: "a"}, {Name: "e", Text: true, S: "x"}, {Name: "f"}},
	}
	for first, l := range wrong {
		for at := 1; at < 16; at++ {
			for _, f := range l {
				r := record(16)
				r[at] = f
				isCheck(t, r, first)
				isCheck(t, append(r, f), api.ErrFormMany)
				isCheck(t, append(r, number("z", 1)), api.ErrFormMany)
				for _, others := range wrong {
					for _, g := range others {
						if at+1 < len(r) {
							r[at+1] = g
							isCheck(t, r, first)
						}
						if at+3 < len(r) {
							r[at+1], r[at+3] = number("zz", 1), g
							isCheck(t, r, first)
						}
					}
				}
			}
		}
	}
	// The first field has none ahead of it, however low its name is.
	isCheck(t, []api.Field{number("a", 1)}, api.OK)
	isCheck(t, []api.Field{number("", 1)}, api.ErrFormName)
	isCheck(t, []api.Field{number("", 1), number("", 1)}, api.ErrFormName)
	// A field of a wrong name or value is told ahead of its order, and of the order of those behind.
	isCheck(t, []api.Field{number("b", 1), {Name: "b", S: "x"}}, api.ErrFormValue)
	isCheck(t, []api.Field{number("b", 1), {Name: "B", S: "x"}}, api.ErrFormName)
	isCheck(t, []api.Field{number("b", 1), number("a", 1), {Name: "c", S: "x"}}, api.ErrFormOrder)
	isCheck(t, []api.Field{number("b", 1), number("a", 1), {Name: "C"}}, api.ErrFormOrder)
	isCheck(t, []api.Field{{Name: "b", S: "x"}, number("a", 1), {Name: "C"}}, api.ErrFormValue)
}

// P12.2: Write answers Check's error, and no text beside it.
func TestWriteRefuses(t *testing.T) {
	for _, r := range [][]api.Field{record(17), {number("A", 1)}, {{Name: "a", S: "x"}}, {number("b", 1), number("a", 1)}, append(record(2), number("f01", 1))} {
		s, e := Write(r)
		if s != "" || e != Check(r) || e == api.OK {
			t.Errorf("Write(%+v): %q, %v", r, s, e)
		}
	}
}

// P12.2: what is written, byte by byte.
func TestWrite(t *testing.T) {
	for want, r := range map[string][]api.Field{
		"":                                 nil,
		"a=0":                              {number("a", 0)},
		"a=7":                              {number("a", 7)},
		"a=-1":                             {number("a", -1)},
		"a=10":                             {number("a", 10)},
		"a=9223372036854775807":            {number("a", most)},
		"a=-9223372036854775808":           {number("a", least)},
		"a='":                              {text("a", "")},
		"a='0":                             {text("a", "0")},
		"a='%27":                           {text("a", "'")},
		"a='%25%3D%26":                     {text("a", "%=&")},
		"a='-._~":                          {text("a", "-._~")},
		"a='azAZ09":                        {text("a", "azAZ09")},
		"a='%00%0A%7F%FF":                  {text("a", "\x00\n\x7f\xff")},
		"a=1&b='&c=2":                      {number("a", 1), text("b", ""), number("c", 2)},
		"a='x&a_='y&aa='z":                 {text("a", "x"), text("a_", "y"), text("aa", "z")},
		"a=-5&name='x%20y%26%C3%A9":        {number("a", -5), text("name", "x y&é")},
		"f00=-3&f01='text%201&f02=-1":      record(3),
		strings.Repeat("a", 32) + "='%2Bx": {text(strings.Repeat("a", 32), "+x")},
	} {
		if s, e := Write(r); s != want || e != api.OK {
			t.Errorf("Write(%+v): %q, %v, not %q", r, s, e, want)
		}
	}
	if s, e := Write([]api.Field{}); s != "" || e != api.OK {
		t.Errorf("Write of no field: %q, %v", s, e)
	}
}

// P12.2, P12.6: each byte in a text, at each length about the edges.
func TestWriteBytes(t *testing.T) {
	for c := range 256 {
		for _, n := range []int{1, 2, 199, 200} {
			r := []api.Field{text("a", strings.Repeat(string([]byte{byte(c)}), n)), number("b", c)}
			s := isWrite(t, r)
			if got, e := Read(s); !slices.Equal(got, r) || e != api.OK {
				t.Errorf("Read(%q): %+v, %v", s, got, e)
			}
		}
		isCheck(t, []api.Field{text("a", strings.Repeat(string([]byte{byte(c)}), 201))}, api.ErrFormValue)
	}
}
