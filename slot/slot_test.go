package slot

import (
	"bytes"
	"hash/crc32"
	"math"
	"strings"
	"testing"

	"assart/api"
)

const top = 1<<32 - 1 // the greatest number of 4 bytes

// four is the 4 bytes of a number, the lowest first, worked out apart from num.
func four(n int) string { return string([]byte{byte(n), byte(n >> 8), byte(n >> 16), byte(n >> 24)}) }

// sealed is the block of 36 bytes that begins with s, worked out apart from num.
func sealed(s string) string {
	s += strings.Repeat("\x00", 36-len(s))
	return s + four(int(crc32.ChecksumIEEE([]byte(s))))
}

// blockOf is the block that would tell that, be it right or not.
func blockOf(s api.Super) string { return sealed("as" + four(s.Gen) + four(s.Size) + four(s.Sum)) }

func printed(t *testing.T, s api.Super) string {
	t.Helper()
	b, e := Print(s)
	if e != api.OK || len(b) != api.Block {
		t.Fatalf("Print(%v): %q, %d", s, b, e)
	}
	return b
}

// rights are Supers that are right, at the edges of each number and between.
func rights() []api.Super {
	l := []api.Super{
		{Gen: 258, Size: 7, Sum: 0x04030201},
		{Gen: 0x01020304, Size: 0x05060708, Sum: 0xf1f2f3f4},
		{Gen: 7, Size: 1631, Sum: 3421780262},
		{Gen: 256, Size: 65536, Sum: 1 << 24},
	}
	for _, gen := range []int{1, 2, api.Most - 1, api.Most} {
		for _, size := range []int{0, 1, api.Most - 1, api.Most} {
			for _, sum := range []int{0, 1, api.Most, 1 << 31, top - 1, top} {
				l = append(l, api.Super{Gen: gen, Size: size, Sum: sum})
			}
		}
	}
	return l
}

// wrongs are Supers that aren't right by one number alone, and by several.
func wrongs() []api.Super {
	l := []api.Super{{}, {Size: 3, Sum: 4}, {Gen: -1, Size: -1, Sum: -1}, {Gen: 1 << 31, Size: 1 << 31, Sum: 1 << 32}}
	far := []int{-1, -2, -1 << 31, -1 << 32, math.MinInt, math.MinInt + 1, 1 << 32, 1<<32 + 1, 1<<32 + 5, 1 << 33, math.MaxInt}
	for _, n := range far {
		l = append(l, api.Super{Gen: n, Size: 3, Sum: 4}, api.Super{Gen: 2, Size: n, Sum: 4}, api.Super{Gen: 2, Size: 3, Sum: n})
	}
	for _, n := range []int{1 << 31, 1<<31 + 1, top} {
		l = append(l, api.Super{Gen: n, Size: 3, Sum: 4}, api.Super{Gen: 2, Size: n, Sum: 4})
	}
	return append(l, api.Super{Gen: 0, Size: 3, Sum: 4}, api.Super{Gen: 0, Size: api.Most, Sum: top})
}

// odd are blocks that are no Super's.
func odd() []string {
	b := blockOf(api.Super{Gen: 5, Size: 6, Sum: 7})
	l := []string{
		"", "a", "as", b[:1], b[:14], b[:36], b[:39], b + "\x00", b + b, " " + b, " " + b[:39], b[1:], b[1:] + "\x00",
		strings.Repeat("\x00", 40), strings.Repeat("\xff", 40), strings.Repeat("as", 20),
		sealed(""), sealed("as"),
		// Sealed and right but for what stands ahead.
		sealed("xs" + b[2:14]), sealed("ax" + b[2:14]), sealed("sa" + b[2:14]), sealed("AS" + b[2:14]),
		sealed("\x00\x00" + b[2:14]), sealed(b[2:14]), sealed("a" + b[2:14]), sealed("s" + b[2:14]), sealed(" " + b[:14]),
	}
	for at := 14; at < 36; at++ {
		// And but for one byte behind.
		l = append(l, sealed(b[:14]+strings.Repeat("\x00", at-14)+"\x01"), sealed(b[:14]+strings.Repeat("\x00", at-14)+"\x80"))
	}
	for _, s := range []api.Super{
		{}, {Gen: 0, Size: 6, Sum: 7}, {Gen: 1 << 31, Size: 6, Sum: 7}, {Gen: 1<<31 + 1}, {Gen: top, Size: 6, Sum: 7},
		{Gen: 5, Size: 1 << 31, Sum: 7}, {Gen: 5, Size: 1<<31 + 1}, {Gen: 5, Size: top, Sum: 7}, {Gen: top, Size: top, Sum: top},
	} {
		l = append(l, blockOf(s))
	}
	return l
}

// P3.1: what is right, at both ends of each number.
func TestRight(t *testing.T) {
	for _, s := range rights() {
		if !Right(s) {
			t.Errorf("%v isn't right", s)
		}
	}
	for _, s := range wrongs() {
		if Right(s) {
			t.Errorf("%v is right", s)
		}
	}
}

// P3.1: the block: a and s, the three numbers, bytes 0, and the check sum.
func TestPrint(t *testing.T) {
	want := "as\x02\x01\x00\x00\x07\x00\x00\x00\x01\x02\x03\x04" + strings.Repeat("\x00", 22)
	want += four(int(crc32.ChecksumIEEE([]byte(want))))
	if b, e := Print(api.Super{Gen: 258, Size: 7, Sum: 0x04030201}); b != want || e != api.OK {
		t.Errorf("Print: %q, %d, not %q", b, e, want)
	}
	for _, s := range rights() {
		if b, e := Print(s); b != blockOf(s) || e != api.OK {
			t.Errorf("Print(%v): %q, %d", s, b, e)
		}
	}
}

// P3.1: ErrArg, and nothing, of one that isn't right.
func TestPrintNone(t *testing.T) {
	for _, s := range wrongs() {
		if b, e := Print(s); b != "" || e != api.ErrArg {
			t.Errorf("Print(%v): %q, %d", s, b, e)
		}
	}
}

// P3.1: the right one whose block it is.
func TestParse(t *testing.T) {
	for _, s := range rights() {
		if got, e := Parse(blockOf(s)); got != s || e != api.OK {
			t.Errorf("Parse of the block of %v: %v, %d", s, got, e)
		}
	}
}

// P3.1: ErrForm, and none, of a block that is none's.
func TestParseNone(t *testing.T) {
	for i, b := range odd() {
		if s, e := Parse(b); s != (api.Super{}) || e != api.ErrForm {
			t.Errorf("%d: Parse(%q): %v, %d", i, b, s, e)
		}
	}
}

// P3.2: the one that tells the greater Gen, and what it tells; of the same Gen the first.
func TestPick(t *testing.T) {
	for _, x := range []struct {
		a, b api.Super
		at   int
	}{
		{api.Super{Gen: 1}, api.Super{Gen: 2}, 1},
		{api.Super{Gen: 2}, api.Super{Gen: 1}, 0},
		{api.Super{Gen: 1}, api.Super{Gen: 1}, 0},
		{api.Super{Gen: 4, Size: 5, Sum: 6}, api.Super{Gen: 4, Size: 9, Sum: 9}, 0},
		{api.Super{Gen: 4, Size: 9, Sum: 9}, api.Super{Gen: 4, Size: 5, Sum: 6}, 0},
		// Neither size nor sum counts, nor the order of bytes.
		{api.Super{Gen: 3, Size: 9, Sum: 9}, api.Super{Gen: 4, Size: 1, Sum: 1}, 1},
		{api.Super{Gen: 4, Size: 1, Sum: 1}, api.Super{Gen: 3, Size: 9, Sum: 9}, 0},
		{api.Super{Gen: 255}, api.Super{Gen: 256}, 1},
		{api.Super{Gen: 256}, api.Super{Gen: 255}, 0},
		{api.Super{Gen: 1}, api.Super{Gen: api.Most, Size: api.Most, Sum: top}, 1},
		{api.Super{Gen: api.Most, Size: api.Most, Sum: top}, api.Super{Gen: 1}, 0},
		{api.Super{Gen: api.Most - 1}, api.Super{Gen: api.Most}, 1},
		{api.Super{Gen: api.Most}, api.Super{Gen: api.Most, Size: 1}, 0},
	} {
		want := [2]api.Super{x.a, x.b}[x.at]
		if at, s, e := Pick(blockOf(x.a), blockOf(x.b)); at != x.at || s != want || e != api.OK {
			t.Errorf("Pick of %v and %v: %d, %v, %d", x.a, x.b, at, s, e)
		}
	}
}

// P3.2: the greater Gen, of all pairs.
func TestPickPairs(t *testing.T) {
	for i, a := range rights() {
		for j, b := range rights() {
			want, first := 0, a
			if b.Gen > a.Gen {
				want, first = 1, b
			}
			if at, s, e := Pick(blockOf(a), blockOf(b)); at != want || s != first || e != api.OK {
				t.Fatalf("%d, %d: Pick of %v and %v: %d, %v, %d", i, j, a, b, at, s, e)
			}
		}
	}
}

// P3.2: one that is none's doesn't count, whatever it would tell.
func TestPickOne(t *testing.T) {
	for _, s := range []api.Super{{Gen: 1}, {Gen: 5, Size: 6, Sum: 7}, {Gen: api.Most, Size: api.Most, Sum: top}} {
		b := blockOf(s)
		for i, none := range odd() {
			if at, got, e := Pick(b, none); at != 0 || got != s || e != api.OK {
				t.Errorf("%d: Pick of %v and none: %d, %v, %d", i, s, at, got, e)
			}
			if at, got, e := Pick(none, b); at != 1 || got != s || e != api.OK {
				t.Errorf("%d: Pick of none and %v: %d, %v, %d", i, s, at, got, e)
			}
		}
	}
}

// P3.2: ErrNone, 0, and none, if neither counts.
func TestPickNone(t *testing.T) {
	for i, a := range odd() {
		for j, b := range odd() {
			if at, s, e := Pick(a, b); at != 0 || s != (api.Super{}) || e != api.ErrNone {
				t.Fatalf("%d, %d: Pick: %d, %v, %d", i, j, at, s, e)
			}
		}
	}
}

// P3.2: how many bytes a book has, and their check sum.
func TestBook(t *testing.T) {
	for _, x := range []struct {
		s         string
		size, sum int
	}{
		{"", 0, 0},
		{"a", 1, 0xe8b7be43},
		{"123456789", 9, 3421780262},
		{"\x00", 1, 0xd202ef8d},
		{"\xff\xff\xff\xff", 4, top},
	} {
		if size, sum := Book([]byte(x.s)); size != x.size || sum != x.sum {
			t.Errorf("Book(%q): %d, %d", x.s, size, sum)
		}
	}
	if size, sum := Book(nil); size != 0 || sum != 0 {
		t.Errorf("Book of nothing: %d, %d", size, sum)
	}
	long := make([]byte, 5631)
	for i := range long {
		long[i] = byte(i * i >> 3)
		if size, sum := Book(long[:i]); i%97 == 0 && (size != i || sum != int(crc32.ChecksumIEEE(long[:i]))) {
			t.Errorf("Book of %d bytes: %d, %d", i, size, sum)
		}
	}
}

// P3.2: what Book tells of a book stands in a Super that is right.
func TestBookIsTold(t *testing.T) {
	for _, book := range []string{"", "a", "123456789", "\xff\xff\xff\xff"} {
		size, sum := Book([]byte(book))
		s := api.Super{Gen: 1, Size: size, Sum: sum}
		if got, e := Parse(printed(t, s)); got != s || e != api.OK {
			t.Errorf("%q: %v, %d", book, got, e)
		}
	}
}

// P3.3: what is printed is parsed; what is parsed has that block.
func TestPrintedIsParsed(t *testing.T) {
	l := rights()
	for i := range 2000 {
		l = append(l, api.Super{Gen: 1 + i*i*i*7919%api.Most, Size: i * i * i * 104729 % api.Most, Sum: i * i * i * 1299709 % top})
	}
	for _, s := range l {
		b := printed(t, s)
		got, e := Parse(b)
		if got != s || e != api.OK {
			t.Fatalf("%v: %v, %d", s, got, e)
		}
		if again := printed(t, got); again != b {
			t.Fatalf("%v: %q, and then %q", s, b, again)
		}
	}
}

// P3.3: a block that is spoilt in one byte doesn't count.
func TestSpoilt(t *testing.T) {
	for _, s := range []api.Super{{Gen: 1}, {Gen: 258, Size: 7, Sum: 0x04030201}, {Gen: api.Most, Size: api.Most, Sum: top}} {
		b, other := printed(t, s), api.Super{Gen: 1, Size: 2, Sum: 3}
		left := printed(t, other)
		for i := range len(b) {
			for x := 1; x < 256; x++ {
				spoilt := []byte(b)
				spoilt[i] ^= byte(x)
				if got, e := Parse(string(spoilt)); got != (api.Super{}) || e != api.ErrForm {
					t.Fatalf("byte %d xor %d: %v, %d", i, x, got, e)
				}
				if at, got, e := Pick(string(spoilt), left); at != 1 || got != other || e != api.OK {
					t.Fatalf("byte %d xor %d is picked: %d, %v, %d", i, x, at, got, e)
				}
			}
		}
	}
}

// The chapter's example: of Gen 1 and 2 the second one counts.
func TestExample(t *testing.T) {
	one, two := printed(t, api.Super{Gen: 1}), printed(t, api.Super{Gen: 2})
	if at, s, e := Pick(one, two); at != 1 || s != (api.Super{Gen: 2}) || e != api.OK {
		t.Errorf("Pick: %d, %v, %d", at, s, e)
	}
}

// R3: a book isn't written into, not even behind its end.
func TestHandedIn(t *testing.T) {
	whole := bytes.Repeat([]byte("book"), 30)
	for n := range len(whole) {
		b := bytes.Clone(whole)
		Book(b[:n])
		if !bytes.Equal(b, whole) {
			t.Fatalf("%d bytes: the book is changed", n)
		}
	}
}

// R4: the same arguments, the same answers.
func TestSameAnswers(t *testing.T) {
	s := api.Super{Gen: 9, Size: 8, Sum: 7}
	b := printed(t, s)
	for range 3 {
		for _, none := range odd() {
			Parse(none)
			Pick(none, b)
		}
		for _, w := range wrongs() {
			Print(w)
		}
		if got, e := Parse(b); printed(t, s) != b || got != s || e != api.OK {
			t.Fatal("another answer")
		}
		if at, got, e := Pick("", b); at != 1 || got != s || e != api.OK {
			t.Fatal("another pick")
		}
	}
}
