package codec

import (
	"bytes"
	"hash/crc32"
	"math/rand"
	"strings"
	"testing"

	"cartulary/api"
)

// slowSum is the checksum, step by step as the document tells it.
func slowSum(b []byte) uint32 {
	r := uint32(1<<32 - 1)
	for _, c := range b {
		r ^= uint32(c)
		for range 8 {
			odd := r%2 == 1
			r /= 2
			if odd {
				r ^= 0x82f63b78
			}
		}
	}
	return r ^ (1<<32 - 1)
}

// laidFrame is a frame's bytes, laid without asking how many there are.
func laidFrame(kind byte, data []byte) []byte {
	body := append(PutUint([]byte{kind}, uint64(len(data))), data...)
	return append(Put32(nil, slowSum(body)), body...)
}

func mustFrame(t *testing.T, kind byte, data []byte) []byte {
	t.Helper()
	b, e := PutFrame(nil, api.Frame{Kind: kind, Data: data})
	if e != api.OK {
		t.Fatalf("PutFrame of %d bytes: %d", len(data), e)
	}
	return b
}

func someBytes(n int) []byte {
	b := make([]byte, n)
	rand.New(rand.NewSource(int64(n))).Read(b)
	return b
}

// P1.4
func TestSum(t *testing.T) {
	if s := Sum([]byte("123456789")); s != 0xe3069283 {
		t.Errorf("Sum of 123456789: %x", s)
	}
	if Sum(nil) != 0 || Sum([]byte{}) != 0 {
		t.Errorf("Sum of nothing: %x", Sum(nil))
	}
	for c := range 256 {
		if b := []byte{byte(c)}; Sum(b) != slowSum(b) {
			t.Errorf("Sum of %x: %x", b, Sum(b))
		}
	}
	table := crc32.MakeTable(crc32.Castagnoli)
	for n := range 300 {
		if b := someBytes(n); Sum(b) != slowSum(b) || Sum(b) != crc32.Checksum(b, table) {
			t.Errorf("Sum of %d bytes: %x, not %x", n, Sum(b), slowSum(b))
		}
	}
}

// P1.5
func TestFrameLaidAndRead(t *testing.T) {
	for _, n := range []int{0, 1, 2, 127, 128, 300, 1999, api.MaxFrame} {
		for _, kind := range []byte{0, 1, 127, 128, 255} {
			data := someBytes(n)
			want := laidFrame(kind, data)
			b, e := PutFrame([]byte("ab"), api.Frame{Kind: kind, Data: data})
			if e != api.OK || string(b) != "ab"+string(want) {
				t.Errorf("PutFrame of %d bytes: %d", n, e)
			}
			for _, behind := range []string{"", "\x09", ff(20)} {
				f, k, e := Frame([]byte(string(want) + behind))
				if f.Kind != kind || !bytes.Equal(f.Data, data) || k != len(want) || e != api.OK {
					t.Errorf("Frame of %d bytes: kind %d, %d bytes, %d, %d", n, f.Kind, len(f.Data), k, e)
				}
			}
		}
	}
}

// P1.5
func TestFrameExample(t *testing.T) {
	b := mustFrame(t, 1, []byte("hi"))
	if len(b) != 8 || string(b[4:]) != "\x01\x02hi" {
		t.Errorf("the frame of kind 1 with hi: %x", b)
	}
	if f, k, e := Frame(append(b, 9)); f.Kind != 1 || string(f.Data) != "hi" || k != 8 || e != api.OK {
		t.Errorf("Frame: %v, %d, %d", f, k, e)
	}
}

func TestPutFrameLong(t *testing.T) {
	for _, n := range []int{api.MaxFrame + 1, api.MaxFrame + 2, 100000} {
		if b, e := PutFrame([]byte("ab"), api.Frame{Data: make([]byte, n)}); len(b) != 0 || e != api.ErrCodecLong {
			t.Errorf("PutFrame of %d bytes: %d bytes, %d", n, len(b), e)
		}
	}
}

// P1.5: which error is told where several apply, too.
func TestFrameErrors(t *testing.T) {
	whole := string(laidFrame(7, someBytes(300)))
	rows := []struct {
		b    string
		want api.Errno
	}{
		{"", api.ErrCodecShort}, {ff(4), api.ErrCodecShort}, {ff(5), api.ErrCodecShort}, {ff(14), api.ErrCodecShort},
		{ff(15), api.ErrCodecForm}, {ff(5) + "\x80\x00", api.ErrCodecForm}, {ff(14) + "\x02", api.ErrCodecForm},
		{ff(5) + "\xd1\x0f", api.ErrCodecLong}, {ff(14) + "\x01", api.ErrCodecLong}, {string(laidFrame(7, someBytes(api.MaxFrame+1))), api.ErrCodecLong},
		{ff(5) + "\xd0\x0f", api.ErrCodecShort}, {ff(5) + "\x03ab", api.ErrCodecShort}, {ff(5) + "\x01", api.ErrCodecShort},
		{ff(5) + "\x00", api.ErrCodecForm}, {ff(5) + "\x03abc", api.ErrCodecForm}, {ff(5) + "\xd0\x0f" + strings.Repeat("a", 2000), api.ErrCodecForm},
		{"\x00" + whole[1:], api.ErrCodecForm}, {whole[:3] + string([]byte{whole[3] ^ 128}) + whole[4:], api.ErrCodecForm},
	}
	for cut := range len(whole) {
		rows = append(rows, struct {
			b    string
			want api.Errno
		}{whole[:cut], api.ErrCodecShort})
	}
	for _, row := range rows {
		if f, k, e := Frame([]byte(row.b)); f.Kind != 0 || len(f.Data) != 0 || k != 0 || e != row.want {
			t.Errorf("Frame of %d bytes %.20x: %v, %d, %d, not %d", len(row.b), row.b, f, k, e, row.want)
		}
	}
}

// P1.5
func TestScan(t *testing.T) {
	one, two, three := laidFrame(1, []byte("hi")), laidFrame(2, nil), laidFrame(3, someBytes(2000))
	turned := bytes.Clone(three)
	turned[900] ^= 4
	for _, row := range []struct {
		parts [][]byte
		count int
	}{
		{nil, 0}, {[][]byte{one}, 1}, {[][]byte{one, two, three}, 3}, {[][]byte{one, one, one[:4]}, 2},
		{[][]byte{three, two, three[:1000]}, 2}, {[][]byte{one, turned, two}, 1}, {[][]byte{turned, one}, 0},
		{[][]byte{one, {0}, two}, 1}, {[][]byte{one, two, laidFrame(4, make([]byte, 2001)), one}, 2},
	} {
		frames, k := Scan(bytes.Join(row.parts, nil))
		if len(frames) != row.count || k != len(bytes.Join(row.parts[:row.count], nil)) {
			t.Errorf("%d frames, %d bytes; not %d", len(frames), k, row.count)
			continue
		}
		for i, f := range frames {
			if !bytes.Equal(laidFrame(f.Kind, f.Data), row.parts[i]) {
				t.Errorf("the frame %d: kind %d, %d bytes", i, f.Kind, len(f.Data))
			}
		}
	}
}

// P1.8: a bit turned anywhere: another frame or none, and what stands behind it is not read.
func TestFrameBitTurned(t *testing.T) {
	for _, n := range []int{0, 1, 2, 127, 128, 300, api.MaxFrame} {
		data := someBytes(n)
		for _, behind := range []string{"", string(laidFrame(1, []byte("next"))), strings.Repeat("\x00", 2100)} {
			b := append(mustFrame(t, 5, data), behind...)
			for bit := range 8 * (len(b) - len(behind)) {
				b[bit/8] ^= 1 << (bit % 8)
				f, k, e := Frame(b)
				if e == api.OK && (f.Kind == 5 && bytes.Equal(f.Data, data) || !bytes.Equal(mustFrame(t, f.Kind, f.Data), b[:k])) {
					t.Fatalf("%d bytes, the bit %d turned: kind %d, %d bytes, %d", n, bit, f.Kind, len(f.Data), k)
				}
				if bit >= 32 && bit < 40 && e != api.ErrCodecForm {
					t.Fatalf("%d bytes, the kind's bit %d turned: %d", n, bit, e)
				}
				b[bit/8] ^= 1 << (bit % 8)
			}
		}
	}
}

// forged is four bytes that bring the sum of b and them to be sum.
func forged(b []byte, sum uint32) []byte {
	r := ^sum
	for range 32 { // the steps, backwards
		if r>>31 == 1 {
			r = (r^0x82f63b78)<<1 | 1
		} else {
			r <<= 1
		}
	}
	return Put32(nil, r^^slowSum(b))
}

// P1.8: the number of bytes turned, and bytes behind that fit the sum: another frame is read, of as many bytes as it says.
func TestFrameTurnedIntoAnother(t *testing.T) {
	b := mustFrame(t, 1, []byte("hi"))
	sum, _ := U32(b)
	b[5] ^= 4
	b = append(b, forged(b[4:], sum)...)
	for _, behind := range []string{"", "\x00", ff(30)} {
		f, k, e := Frame([]byte(string(b) + behind))
		if f.Kind != 1 || !bytes.Equal(f.Data, b[6:]) || k != 12 || e != api.OK {
			t.Errorf("%v, %d, %d", f, k, e)
		}
	}
	if f, k, e := Frame(b[:11]); len(f.Data) != 0 || k != 0 || e != api.ErrCodecShort {
		t.Errorf("%v, %d, %d", f, k, e)
	}
}

// P1.8: unlike frames are laid otherwise.
func TestUnlikeFrames(t *testing.T) {
	seen := map[string]api.Frame{}
	for kind := range 256 {
		for _, s := range []string{"", "a", "b", "ab", "\x00", "\x00\x00", "\x01a"} {
			b := mustFrame(t, byte(kind), []byte(s))
			if f, there := seen[string(b)]; there {
				t.Errorf("kind %d, %q is laid as %v", kind, s, f)
			}
			seen[string(b)] = api.Frame{Kind: byte(kind), Data: []byte(s)}
		}
	}
}
