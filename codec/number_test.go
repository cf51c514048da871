package codec

import (
	"bytes"
	"math"
	"math/rand"
	"strings"
	"testing"

	"cartulary/api"
)

// ff is n bytes ff.
func ff(n int) string { return strings.Repeat("\xff", n) }

func TestErrorsAndLimits(t *testing.T) {
	for name, row := range map[string][2]int{
		"OK": {int(api.OK), 0}, "ErrArg": {int(api.ErrArg), 1}, "ErrDown": {int(api.ErrDown), 2},
		"ErrCodecShort": {int(api.ErrCodecShort), 10}, "ErrCodecForm": {int(api.ErrCodecForm), 11},
		"ErrCodecLong": {int(api.ErrCodecLong), 12}, "ErrCodecEvent": {int(api.ErrCodecEvent), 13},
		"BlockSize": {api.BlockSize, 512}, "MinBlocks": {api.MinBlocks, 64}, "MaxBlocks": {api.MaxBlocks, 512},
		"MaxSuper": {api.MaxSuper, 400}, "MaxCommit": {api.MaxCommit, 16}, "LogExtra": {api.LogExtra, 20},
		"FsExtra": {api.FsExtra, 16}, "MaxFiles": {api.MaxFiles, 64}, "MaxFsName": {api.MaxFsName, 40},
		"MaxFile": {api.MaxFile, 32768}, "MaxFrame": {api.MaxFrame, 2000}, "SegSize": {api.SegSize, 8192},
		"MaxSaved": {api.MaxSaved, 8000}, "MaxName": {api.MaxName, 60}, "MaxSaveAs": {api.MaxSaveAs, 30},
		"MaxText": {api.MaxText, 200}, "MaxFields": {api.MaxFields, 16}, "MaxEvents": {api.MaxEvents, 16},
		"MaxVersion": {api.MaxVersion, 1 << 30},
	} {
		if row[0] != row[1] {
			t.Errorf("%s is %d, not %d", name, row[0], row[1])
		}
	}
}

// laidNumbers has the edges of each length, from one byte to ten.
var laidNumbers = []struct {
	n    uint64
	laid string
}{
	{0, "\x00"}, {1, "\x01"}, {127, "\x7f"},
	{128, "\x80\x01"}, {300, "\xac\x02"}, {1<<14 - 1, "\xff\x7f"},
	{1 << 14, "\x80\x80\x01"}, {1<<21 - 1, "\xff\xff\x7f"},
	{1 << 21, "\x80\x80\x80\x01"}, {1<<28 - 1, ff(3) + "\x7f"},
	{1 << 28, "\x80\x80\x80\x80\x01"}, {1<<35 - 1, ff(4) + "\x7f"},
	{1 << 35, "\x80\x80\x80\x80\x80\x01"}, {1<<42 - 1, ff(5) + "\x7f"},
	{1 << 42, "\x80\x80\x80\x80\x80\x80\x01"}, {1<<49 - 1, ff(6) + "\x7f"},
	{1 << 49, "\x80\x80\x80\x80\x80\x80\x80\x01"}, {1<<56 - 1, ff(7) + "\x7f"},
	{1 << 56, "\x80\x80\x80\x80\x80\x80\x80\x80\x01"}, {1<<63 - 1, ff(8) + "\x7f"},
	{1 << 63, "\x80\x80\x80\x80\x80\x80\x80\x80\x80\x01"}, {1<<64 - 1, ff(9) + "\x01"},
}

// P1.1
func TestUintLaidAndRead(t *testing.T) {
	for _, row := range laidNumbers {
		if b := PutUint(nil, row.n); string(b) != row.laid {
			t.Errorf("PutUint %d: %x, not %x", row.n, b, row.laid)
		}
		if b := PutUint([]byte("ab"), row.n); string(b) != "ab"+row.laid {
			t.Errorf("PutUint behind ab, %d: %x", row.n, b)
		}
		for _, behind := range []string{"", "\x00", "\x05\xff", ff(12)} {
			if n, k, e := Uint([]byte(row.laid + behind)); n != row.n || k != len(row.laid) || e != api.OK {
				t.Errorf("Uint %x, %x behind: %d, %d, %d", row.laid, behind, n, k, e)
			}
		}
	}
}

// P1.1: every number's bytes, cut, lack some.
func TestUintShort(t *testing.T) {
	for _, row := range laidNumbers {
		for cut := range len(row.laid) {
			if n, k, e := Uint([]byte(row.laid[:cut])); n != 0 || k != 0 || e != api.ErrCodecShort {
				t.Errorf("Uint %x: %d, %d, %d", row.laid[:cut], n, k, e)
			}
		}
	}
	for n := range mostNumber {
		if x, k, e := Uint([]byte(ff(n))); x != 0 || k != 0 || e != api.ErrCodecShort {
			t.Errorf("Uint of %d bytes ff: %d, %d, %d", n, x, k, e)
		}
	}
}

// P1.1
func TestUintForm(t *testing.T) {
	var wrong []string
	for n := 1; n < mostNumber; n++ { // a last byte 0 behind others
		wrong = append(wrong, ff(n)+"\x00", strings.Repeat("\x80", n)+"\x00")
	}
	for c := 2; c < 256; c++ { // a tenth byte above 1
		wrong = append(wrong, ff(9)+string([]byte{byte(c)}))
	}
	wrong = append(wrong, ff(10), ff(11), ff(10)+"\x01", strings.Repeat("\x80", 10)+"\x01", strings.Repeat("\x80", 10))
	for _, s := range wrong {
		for _, behind := range []string{"", "\x01"} {
			if n, k, e := Uint([]byte(s + behind)); n != 0 || k != 0 || e != api.ErrCodecForm {
				t.Errorf("Uint %x, %x behind: %d, %d, %d", s, behind, n, k, e)
			}
		}
	}
}

// P1.2
func TestIntLaidAndRead(t *testing.T) {
	for _, row := range []struct {
		n    int
		laid string
	}{
		{0, "\x00"}, {-1, "\x01"}, {1, "\x02"}, {-2, "\x03"}, {63, "\x7e"}, {-64, "\x7f"}, {64, "\x80\x01"}, {-65, "\x81\x01"},
		{150, "\xac\x02"}, {math.MaxInt64, "\xfe" + ff(8) + "\x01"}, {math.MinInt64, ff(9) + "\x01"},
		{math.MinInt64 + 1, "\xfd" + ff(8) + "\x01"}, {1 << 62, "\x80\x80\x80\x80\x80\x80\x80\x80\x80\x01"}, {-1 << 62, ff(8) + "\x7f"},
	} {
		if b := PutInt([]byte("ab"), row.n); string(b) != "ab"+row.laid {
			t.Errorf("PutInt %d: %x, not %x", row.n, b, row.laid)
		}
		if n, k, e := Int([]byte(row.laid + "\xff")); n != row.n || k != len(row.laid) || e != api.OK {
			t.Errorf("Int %x: %d, %d, %d", row.laid, n, k, e)
		}
	}
}

// P1.2: with Uint's errors.
func TestIntErrors(t *testing.T) {
	for s, want := range map[string]api.Errno{
		"": api.ErrCodecShort, "\x80": api.ErrCodecShort, ff(9): api.ErrCodecShort,
		"\x80\x00": api.ErrCodecForm, "\x81\x00": api.ErrCodecForm, ff(9) + "\x02": api.ErrCodecForm, ff(10): api.ErrCodecForm,
	} {
		if n, k, e := Int([]byte(s)); n != 0 || k != 0 || e != want {
			t.Errorf("Int %x: %d, %d, %d", s, n, k, e)
		}
	}
}

// P1.3
func TestTextLaidAndRead(t *testing.T) {
	for s, head := range map[string]string{
		"": "\x00", "a": "\x01", "abc": "\x03", "\x00\xff\x80": "\x03", "ü": "\x02",
		strings.Repeat("x", 127): "\x7f", strings.Repeat("x", 128): "\x80\x01", strings.Repeat("y", 300): "\xac\x02",
	} {
		if b := PutText([]byte("ab"), s); string(b) != "ab"+head+s {
			t.Errorf("PutText %q: %x", s, b)
		}
		for _, most := range []int{len(s), len(s) + 1, math.MaxInt} {
			for _, behind := range []string{"", "d", ff(3)} {
				if x, k, e := Text([]byte(head+s+behind), most); x != s || k != len(head+s) || e != api.OK {
					t.Errorf("Text of %q, at most %d: %q, %d, %d", s, most, x, k, e)
				}
			}
		}
	}
}

// P1.3: which error is told where several apply, too.
func TestTextErrors(t *testing.T) {
	for _, row := range []struct {
		b    string
		most int
		want api.Errno
	}{
		{"", 9, api.ErrCodecShort}, {"\x80", 9, api.ErrCodecShort}, {"", -1, api.ErrCodecShort},
		{"\x80\x00", 9, api.ErrCodecForm}, {ff(10), math.MaxInt, api.ErrCodecForm}, {"\x80\x00", -1, api.ErrCodecForm},
		{"\x03abc", 2, api.ErrCodecLong}, {"\x03a", 2, api.ErrCodecLong}, {"\x01a", 0, api.ErrCodecLong},
		{"\x00", -1, api.ErrCodecLong}, {"\x01a", math.MinInt, api.ErrCodecLong},
		{ff(9) + "\x01", math.MaxInt, api.ErrCodecLong}, {"\x80\x80\x80\x80\x80\x80\x80\x80\x80\x01", math.MaxInt, api.ErrCodecLong},
		{"\x03a", 9, api.ErrCodecShort}, {"\x03ab", 3, api.ErrCodecShort}, {"\x01", 1, api.ErrCodecShort},
		{ff(8) + "\x7fabc", math.MaxInt, api.ErrCodecShort},
	} {
		if s, k, e := Text([]byte(row.b), row.most); s != "" || k != 0 || e != row.want {
			t.Errorf("Text %x, at most %d: %q, %d, %d", row.b, row.most, s, k, e)
		}
	}
}

// P1.4
func TestFourBytes(t *testing.T) {
	for n, want := range map[uint32]string{0: "\x00\x00\x00\x00", 1: "\x01\x00\x00\x00", 0x01020304: "\x04\x03\x02\x01", 0x80ff7f01: "\x01\x7f\xff\x80", 1<<32 - 1: ff(4)} {
		if b := Put32([]byte("ab"), n); string(b) != "ab"+want {
			t.Errorf("Put32 %x: %x", n, b)
		}
		for _, behind := range []string{"", "z", ff(4)} {
			if x, e := U32([]byte(want + behind)); x != n || e != api.OK {
				t.Errorf("U32 %x, %x behind: %x, %d", want, behind, x, e)
			}
		}
		for cut := range 4 {
			if x, e := U32([]byte(want[:cut])); x != 0 || e != api.ErrCodecShort {
				t.Errorf("U32 %x: %x, %d", want[:cut], x, e)
			}
		}
	}
}

// P1.8: numbers, integers and texts are read again, and are read the same whatever stands behind; unlike ones are laid otherwise.
func TestNumbersReadAgain(t *testing.T) {
	rnd := rand.New(rand.NewSource(1))
	uints, ints := map[string]uint64{}, map[string]int{}
	for range 20000 {
		n := rnd.Uint64() >> rnd.Intn(64)
		junk := make([]byte, rnd.Intn(12))
		rnd.Read(junk)
		laid := PutUint(nil, n)
		if x, k, e := Uint(append(bytes.Clone(laid), junk...)); x != n || k != len(laid) || e != api.OK {
			t.Fatalf("%d: %d, %d, %d", n, x, k, e)
		}
		if m, there := uints[string(laid)]; there && m != n {
			t.Fatalf("%d and %d are laid alike", n, m)
		}
		uints[string(laid)] = n
		i := int(n)
		laid = PutInt(nil, i)
		if x, k, e := Int(append(bytes.Clone(laid), junk...)); x != i || k != len(laid) || e != api.OK {
			t.Fatalf("%d: %d, %d, %d", i, x, k, e)
		}
		if m, there := ints[string(laid)]; there && m != i {
			t.Fatalf("%d and %d are laid alike", i, m)
		}
		ints[string(laid)] = i
	}
}

// P1.8: whatever bytes Uint reads are those that PutUint lays.
func TestUintOfAnyBytes(t *testing.T) {
	rnd := rand.New(rand.NewSource(2))
	for range 50000 {
		b := make([]byte, rnd.Intn(14))
		rnd.Read(b)
		for i := range b {
			if rnd.Intn(4) > 0 {
				b[i] |= 128
			}
		}
		if n, k, e := Uint(b); e == api.OK && !bytes.Equal(PutUint(nil, n), b[:k]) {
			t.Fatalf("Uint %x: %d, %d", b, n, k)
		}
	}
}
