package num

import (
	"bytes"
	"hash/crc32"
	"math"
	"strings"
	"testing"

	"assart/api"
)

// noise is n bytes that look like no pattern, the same at each run.
func noise(n int, seed uint32) []byte {
	b := make([]byte, n)
	for i := range b {
		seed = seed*1664525 + 1013904223
		b[i] = byte(seed >> 24)
	}
	return b
}

func seal(t *testing.T, b []byte) string {
	t.Helper()
	s, e := Seal(b)
	if e != api.OK || len(s) != api.Block {
		t.Fatalf("Seal(%v): %q, %d", b, s, e)
	}
	return s
}

// P1.1: the bytes of numbers, the lowest first.
func TestPut(t *testing.T) {
	for _, x := range []struct {
		n, w int
		want []byte
	}{
		{258, 2, []byte{2, 1}},
		{0, 1, []byte{0}},
		{7, 1, []byte{7}},
		{255, 1, []byte{255}},
		{0, 2, []byte{0, 0}},
		{256, 2, []byte{0, 1}},
		{1<<16 - 1, 2, []byte{255, 255}},
		{0x030201, 3, []byte{1, 2, 3}},
		{1<<24 - 1, 3, []byte{255, 255, 255}},
		{0x04030201, 4, []byte{1, 2, 3, 4}},
		{api.Most, 4, []byte{255, 255, 255, 127}},
		{1 << 31, 4, []byte{0, 0, 0, 128}},
		{1<<32 - 1, 4, []byte{255, 255, 255, 255}},
	} {
		if got := Put(x.n, x.w); !bytes.Equal(got, x.want) {
			t.Errorf("Put(%d, %d): %v, not %v", x.n, x.w, got, x.want)
		}
	}
}

// P1.1: what is no number of w bytes has none, and no width but 1 to 4 has any.
func TestPutNone(t *testing.T) {
	for _, x := range [][2]int{
		{256, 1}, {1 << 16, 2}, {1 << 24, 3}, {1 << 32, 4}, {1<<32 + 1, 4}, {math.MaxInt, 4}, {math.MaxInt, 1},
		{-1, 1}, {-1, 2}, {-1, 3}, {-1, 4}, {math.MinInt, 1}, {math.MinInt, 4},
		{0, 0}, {1, 0}, {0, -1}, {1, -1}, {0, 5}, {1, 5}, {0, 8}, {0, math.MinInt}, {1, math.MinInt}, {0, math.MaxInt}, {1, math.MaxInt},
	} {
		if got := Put(x[0], x[1]); len(got) != 0 {
			t.Errorf("Put(%d, %d): %v", x[0], x[1], got)
		}
	}
}

// P1.1: the number that stands at a place, and the place behind.
func TestTake(t *testing.T) {
	b := []byte{1, 2, 3, 4, 255, 254, 253, 252}
	for _, x := range []struct{ at, w, n, behind int }{
		{0, 1, 1, 1}, {3, 1, 4, 4}, {7, 1, 252, 8},
		{0, 2, 0x0201, 2}, {6, 2, 0xfcfd, 8},
		{1, 3, 0x040302, 4}, {5, 3, 0xfcfdfe, 8},
		{0, 4, 0x04030201, 4}, {4, 4, 0xfcfdfeff, 8},
	} {
		if n, behind, e := Take(b, x.at, x.w); n != x.n || behind != x.behind || e != api.OK {
			t.Errorf("Take at %d, %d bytes: %d, %d, %d", x.at, x.w, n, behind, e)
		}
	}
	if n, behind, e := Take([]byte{255, 255, 255, 255}, 0, 4); n != 1<<32-1 || behind != 4 || e != api.OK {
		t.Errorf("all ones: %d, %d, %d", n, behind, e)
	}
}

// P1.1: ErrForm, 0 and 0, where there are no such bytes, and at every width but 1 to 4.
func TestTakeNone(t *testing.T) {
	b := []byte{1, 2, 3, 4, 5, 6}
	for _, x := range [][2]int{
		{6, 1}, {5, 2}, {4, 3}, {3, 4}, {6, 4}, {7, 1},
		{-1, 1}, {-1, 4}, {-4, 4}, {math.MinInt, 1}, {math.MaxInt, 1}, {math.MaxInt, 4}, {math.MaxInt - 3, 4},
		{0, 0}, {6, 0}, {0, -1}, {3, -2}, {0, 5}, {0, 6}, {0, math.MinInt}, {0, math.MaxInt}, {math.MaxInt, math.MaxInt}, {math.MinInt, math.MinInt},
	} {
		if n, behind, e := Take(b, x[0], x[1]); n != 0 || behind != 0 || e != api.ErrForm {
			t.Errorf("Take at %d, %d bytes: %d, %d, %d", x[0], x[1], n, behind, e)
		}
	}
	for _, none := range [][]byte{nil, {}} {
		if n, behind, e := Take(none, 0, 1); n != 0 || behind != 0 || e != api.ErrForm {
			t.Errorf("Take of nothing: %d, %d, %d", n, behind, e)
		}
	}
	// What lies behind a list's end is no part of it.
	if _, _, e := Take(b[:3], 0, 4); e != api.ErrForm {
		t.Errorf("Take of a list's spare bytes: %d", e)
	}
}

// P1.2: the check sum, known ones.
func TestSumKnown(t *testing.T) {
	for _, x := range []struct {
		s   string
		sum int
	}{
		{"", 0},
		{"a", 0xe8b7be43},
		{"abc", 0x352441c2},
		{"123456789", 3421780262},
		{"\x00", 0xd202ef8d},
		{"\xff", 0xff000000},
		{"\xff\xff\xff\xff", 0xffffffff},
		{"\x00\x00\x00\x00", 0x2144df1c},
	} {
		if got := Sum([]byte(x.s)); got != x.sum {
			t.Errorf("Sum(%q): %d, not %d", x.s, got, x.sum)
		}
	}
	if got := Sum(nil); got != 0 {
		t.Errorf("Sum of nothing: %d", got)
	}
}

// P1.2: the check sum is the CRC-32 of Ethernet, as the library reckons it.
func TestSumEthernet(t *testing.T) {
	for i := range 256 {
		b := []byte{byte(i)}
		if got := Sum(b); got != int(crc32.ChecksumIEEE(b)) {
			t.Errorf("Sum of %d: %d", i, got)
		}
	}
	for n := range 300 {
		b := noise(n, uint32(n))
		if got := Sum(b); got != int(crc32.ChecksumIEEE(b)) {
			t.Errorf("Sum of %d bytes: %d", n, got)
		}
	}
}

// P1.3: a sealed block is b, bytes 0 up to 36, and their check sum, its lowest byte first.
func TestSeal(t *testing.T) {
	for n := range 37 {
		b := bytes.Repeat([]byte{0xa5}, n)
		want := make([]byte, 36)
		copy(want, b)
		sum := crc32.ChecksumIEEE(want)
		want = append(want, byte(sum), byte(sum>>8), byte(sum>>16), byte(sum>>24))
		if s, e := Seal(b); s != string(want) || e != api.OK {
			t.Errorf("Seal of %d bytes: %q, %d", n, s, e)
		}
	}
	if s, e := Seal(nil); s != seal(t, make([]byte, 36)) || e != api.OK {
		t.Errorf("Seal of nothing: %q, %d", s, e)
	}
}

// P1.3: ErrArg, and nothing, of more than 36 bytes.
func TestSealTooLong(t *testing.T) {
	for _, n := range []int{37, 38, 40, 41, 1000} {
		if s, e := Seal(make([]byte, n)); s != "" || e != api.ErrArg {
			t.Errorf("Seal of %d bytes: %q, %d", n, s, e)
		}
	}
}

// P1.3: a sealed block's 36 bytes.
func TestOpen(t *testing.T) {
	b := noise(36, 3)
	sum := crc32.ChecksumIEEE(b)
	s := string(b) + string([]byte{byte(sum), byte(sum >> 8), byte(sum >> 16), byte(sum >> 24)})
	if got, e := Open(s); !bytes.Equal(got, b) || e != api.OK {
		t.Errorf("Open: %v, %d", got, e)
	}
}

// P1.3: ErrForm, and nothing, of what is no sealed block.
func TestOpenNone(t *testing.T) {
	s := seal(t, noise(36, 4))
	turned := []byte(s)
	turned[36], turned[37], turned[38], turned[39] = turned[39], turned[38], turned[37], turned[36]
	short := noise(35, 5)
	longer := noise(37, 6)
	for i, none := range []string{
		"", s[:1], s[:36], s[:39], s + "\x00", s + s, " " + s[:39], s[1:],
		string(turned),
		strings.Repeat("\x00", 40), strings.Repeat("\xff", 40),
		// These have a right check sum, but another length.
		string(short) + string(Put(Sum(short), 4)),
		string(longer) + string(Put(Sum(longer), 4)),
		string(Put(Sum(nil), 4)),
	} {
		if b, e := Open(none); len(b) != 0 || e != api.ErrForm {
			t.Errorf("%d: Open(%q): %v, %d", i, none, b, e)
		}
	}
}

// P1.4: what is put is taken.
func TestPutIsTaken(t *testing.T) {
	for w := 1; w <= 4; w++ {
		top := 1 << (8 * w)
		list := []int{0, 1, 2, 127, 128, 255, top / 2, top - 2, top - 1}
		for i := range 500 {
			list = append(list, i*i*i*7919%top)
		}
		for _, n := range list {
			for at := range 3 {
				b := append(bytes.Repeat([]byte{9}, at), Put(n, w)...)
				b = append(b, 200, 201)
				if got, behind, e := Take(b, at, w); got != n || behind != at+w || e != api.OK {
					t.Fatalf("%d in %d bytes at %d: %d, %d, %d", n, w, at, got, behind, e)
				}
			}
		}
	}
}

// P1.4: what is sealed is opened, with the bytes 0 behind.
func TestSealedIsOpened(t *testing.T) {
	for n := range 37 {
		b := noise(n, uint32(n)+70)
		want := make([]byte, 36)
		copy(want, b)
		if got, e := Open(seal(t, b)); !bytes.Equal(got, want) || e != api.OK {
			t.Errorf("%d bytes: %v, %d", n, got, e)
		}
	}
}

// P1.4: a sealed block of which one byte is another one is none.
func TestOtherByte(t *testing.T) {
	for _, b := range [][]byte{nil, []byte("abc"), noise(36, 8)} {
		s := seal(t, b)
		for i := range len(s) {
			for x := 1; x < 256; x++ {
				c := []byte(s)
				c[i] ^= byte(x)
				if got, e := Open(string(c)); len(got) != 0 || e != api.ErrForm {
					t.Fatalf("byte %d xor %d: %v, %d", i, x, got, e)
				}
			}
		}
	}
}

// flipped is s with the bits of x turned from bit at on: of each byte the lowest bit is its first one.
func flipped(s string, at int, x uint32) string {
	b := []byte(s)
	for i := range 32 {
		if x>>i&1 == 1 {
			b[(at+i)/8] ^= 1 << ((at + i) % 8)
		}
	}
	return string(b)
}

// P1.4: a sealed block of which bits within 32 in a row are others is none: some bits, through Open.
func TestOtherRow(t *testing.T) {
	for _, b := range [][]byte{nil, noise(36, 11)} {
		s := seal(t, b)
		x := uint32(1)
		for at := range 40*8 - 31 {
			for _, row := range []uint32{1, 1 << 31, 1<<31 | 1, 1<<32 - 1, 0x55555555, 0xedb88320} {
				if got, e := Open(flipped(s, at, row)); len(got) != 0 || e != api.ErrForm {
					t.Fatalf("bits %x from %d on: %v, %d", row, at, got, e)
				}
			}
			for range 100 {
				x = x*1664525 + 1013904223
				if got, e := Open(flipped(s, at, x|1)); len(got) != 0 || e != api.ErrForm {
					t.Fatalf("bits %x from %d on: %v, %d", x|1, at, got, e)
				}
			}
		}
	}
}

// gap is what is between the check sum of a block's 36 bytes and the one it tells: 0 of a sealed block, and of no other.
func gap(s string) uint32 {
	told, _, _ := Take([]byte(s), 36, 4)
	return uint32(told ^ Sum([]byte(s[:36])))
}

// P1.4: all bits within 32 in a row. The gap of a block is the xor of the gaps of its turned bits, so no choice of some
// of 32 bits goes unseen where none of their gaps is the xor of others.
func TestAllRows(t *testing.T) {
	s := seal(t, nil)
	for at := range 40*8 - 31 {
		var byTop [32]uint32
		for i := range 32 {
			g := gap(flipped(s, at, 1<<i))
			for top := 31; top >= 0; top-- {
				if g>>top&1 == 0 {
					continue
				}
				if byTop[top] == 0 {
					byTop[top] = g
					break
				}
				g ^= byTop[top]
			}
			if g == 0 {
				t.Fatalf("bit %d behind %d: its gap is the xor of others", i, at)
			}
		}
	}
}

// R3: what is handed in isn't written into, not even behind its end.
func TestHandedIn(t *testing.T) {
	whole := noise(100, 21)
	for n := range 37 {
		b := append([]byte(nil), whole...)
		Seal(b[:n])
		Sum(b[:n])
		Take(b[:n], n/2, 2)
		if !bytes.Equal(b, whole) {
			t.Fatalf("%d bytes: what was handed in is changed", n)
		}
	}
}

// R3: what comes out isn't changed by what is done to another answer, nor to an argument.
func TestComesOut(t *testing.T) {
	p := Put(258, 2)
	p[0], p[1] = 77, 78
	if q := Put(258, 2); !bytes.Equal(q, []byte{2, 1}) {
		t.Errorf("Put again: %v", q)
	}
	b := noise(36, 22)
	s := seal(t, b)
	first, _ := Open(s)
	second, _ := Open(s)
	clear(first)
	if !bytes.Equal(second, b) {
		t.Error("two answers of Open share memory")
	}
	clear(b)
	if got, e := Open(s); !bytes.Equal(got, second) || e != api.OK {
		t.Error("a sealed block hangs on what it was sealed from")
	}
}

// R4: the same arguments, the same answers.
func TestSameAnswers(t *testing.T) {
	b := noise(36, 23)
	s, sum := seal(t, b), Sum(b)
	for range 3 {
		Sum(noise(50, 24))
		Open("")
		Put(-1, 9)
		if seal(t, b) != s || Sum(b) != sum {
			t.Fatal("another answer")
		}
	}
}
