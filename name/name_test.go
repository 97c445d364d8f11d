package name

import (
	"math"
	"math/big"
	"regexp"
	"slices"
	"strings"
	"testing"

	"assart/api"
)

const abc = "abcdefghijklmnopqrstuvwxyz"

// nameForm and pathForm are what names and paths are, told by the words alone.
var (
	nameForm = regexp.MustCompile(`\A[a-z]{1,4}\z`)
	pathForm = regexp.MustCompile(`\A(/|(/[a-z]{1,4}){1,20})\z`)
)

// numberOf is a name's number by the words: 27 times that of the letters ahead, and the last one's.
func numberOf(s string) int {
	if s == "" {
		return 0
	}
	return 27*numberOf(s[:len(s)-1]) + strings.IndexByte(abc, s[len(s)-1]) + 1
}

// numbersOf is the numbers of a path's names by the words.
func numbersOf(s string) []int {
	var l []int
	for _, part := range strings.FieldsFunc(s, func(r rune) bool { return r == '/' }) {
		l = append(l, numberOf(part))
	}
	return l
}

// allNames are all names: the longer ones behind the shorter ones, and of as many letters byte by byte.
func allNames() []string {
	var l []string
	row := []string{""}
	for range 4 {
		var next []string
		for _, s := range row {
			for i := range abc {
				next = append(next, s+abc[i:i+1])
			}
		}
		l, row = append(l, next...), next
	}
	return l
}

// someNames are names at the edges of letters and lengths, and some between.
func someNames() []string {
	return []string{"a", "b", "m", "y", "z", "aa", "az", "ba", "mn", "za", "zz", "aaa", "aza", "zaz", "zzz", "aaaa", "azaz", "name", "zzza", "zzzz"}
}

// picker is a row of numbers that look as if they were drawn; the same for the same seed.
func picker(seed int) func(n int) int {
	x := uint64(seed)*2654435761 + 12345
	return func(n int) int {
		x = x*6364136223846793005 + 1442695040888963407
		return int(x>>33) % n
	}
}

// drawn is a row of so many names' numbers, of each length as often.
func drawn(pick func(n int) int, many int) []int {
	var l []int
	for range many {
		n := 0
		for range 1 + pick(4) {
			n = 27*n + 1 + pick(26)
		}
		l = append(l, n)
	}
	return l
}

func isName(t *testing.T, s string, n int) {
	t.Helper()
	if got, e := Of(s); got != n || e != api.OK {
		t.Errorf("Of(%q): %d, %d, not %d", s, got, e, n)
	}
	if got, e := Text(n); got != s || e != api.OK {
		t.Errorf("Text(%d): %q, %d, not %q", n, got, e, s)
	}
}

func isNone(t *testing.T, s string) {
	t.Helper()
	if n, e := Of(s); n != 0 || e != api.ErrArg {
		t.Errorf("Of(%.40q): %d, %d", s, n, e)
	}
}

func isNoNumber(t *testing.T, n int) {
	t.Helper()
	if s, e := Text(n); s != "" || e != api.ErrArg {
		t.Errorf("Text(%d): %q, %d", n, s, e)
	}
}

func isPath(t *testing.T, s string, l []int) {
	t.Helper()
	if got, e := Path(s); !slices.Equal(got, l) || e != api.OK {
		t.Errorf("Path(%q): %v, %d, not %v", s, got, e, l)
	}
	if got, e := Join(l); got != s || e != api.OK {
		t.Errorf("Join(%v): %q, %d, not %q", l, got, e, s)
	}
}

func isNoPath(t *testing.T, s string) {
	t.Helper()
	if l, e := Path(s); len(l) != 0 || e != api.ErrArg {
		t.Errorf("Path(%.120q): %v, %d", s, l, e)
	}
}

func isNoRow(t *testing.T, l []int) {
	t.Helper()
	if s, e := Join(l); s != "" || e != api.ErrArg {
		t.Errorf("Join(%v): %q, %d", l, s, e)
	}
}

// P17.1: names and their numbers, worked out by hand; the chapter's examples first.
func TestKnown(t *testing.T) {
	for _, x := range []struct {
		s string
		n int
	}{
		{"a", 1}, {"z", 26}, {"aa", 28},
		{"b", 2}, {"y", 25}, {"ab", 29}, {"az", 53}, {"ba", 55}, {"za", 703}, {"zz", 728},
		{"aaa", 757}, {"aaz", 782}, {"aba", 784}, {"baa", 1486}, {"abc", 786}, {"zzz", 19682},
		{"aaaa", 20440}, {"aaab", 20441}, {"baaa", 40123}, {"abcd", 21226}, {"zzzy", 531439}, {"zzzz", 531440},
	} {
		isName(t, x.s, x.n)
	}
	if numberOf("zzzz") != api.Names {
		t.Error("the greatest number")
	}
}

// P17.1: ErrArg, and 0, of what has no letter, too many, or a sign that is no letter.
func TestOfNone(t *testing.T) {
	for _, s := range []string{
		"", "aaaaa", "zzzzz", "abcde", "aaaaaa", "aaaaaaaa",
		"`", "{", "A", "Z", "0", "1", "9", " ", "/", ".", "_", "-", "\x00", "\n", "\x7f",
		" a", "a ", "a a", "a\x00", "\x00a", "/a", "a/", "a/a", "a\n", "A\x00",
		"aaaa ", " aaaa", "aaaa/", "/aaaa", "aaaa\x00", "aaaaé",
	} {
		isNone(t, s)
	}
}

// P17.1: each byte, at each place of names, instead of a letter, and put in ahead of it and behind all.
func TestOfBytes(t *testing.T) {
	for _, s := range []string{"m", "az", "zaz", "name"} {
		for at := range len(s) + 1 {
			for c := range 256 {
				l := []string{s[:at] + string([]byte{byte(c)}) + s[at:]}
				if at < len(s) {
					l = append(l, s[:at]+string([]byte{byte(c)})+s[at+1:])
				}
				for _, x := range l {
					if nameForm.MatchString(x) {
						isName(t, x, numberOf(x))
					} else {
						isNone(t, x)
					}
				}
			}
		}
	}
}

// P17.1: signs of more than one byte, and bytes that are no sign's, at each place.
func TestOfRunes(t *testing.T) {
	for _, odd := range []string{
		"é", "ä", "ß", "ø", "а", "α", "ａ", "ｚ", "𝐚", "ª", "İ", "ſ", "\u212a",
		// Of these the last byte, or the last two, of the sign's number are a letter's.
		"\u0161", "\u017a", "\u0261", "\u2061", "\U00010061", "\U0001007a", "\U00100061",
		"\ufffd", "\ufeff", "\u200b", "a\u0301",
		// And of these none is a sign's: ends of a's bytes, an a in two bytes, one alone of several.
		"\xff", "\x80", "\xe1", "\xfa", "\xc1\xa1", "\xe0\x81\xa1", "\xed\xa0\x80", "\xc3", "\xe2\x80", "\xf4\x90\x80\x80",
	} {
		isNone(t, odd)
		for _, s := range []string{"a", "zz", "aza", "name"} {
			for at := range len(s) + 1 {
				isNone(t, s[:at]+odd+s[at:])
				isNone(t, s[:at]+odd+s[min(at+1, len(s)):])
			}
		}
	}
}

// P17.1, R5: long texts of letters are no names, also where their numbers would go round to a name's.
func TestOfLong(t *testing.T) {
	for many := 5; many < 300; many++ {
		for _, c := range []string{"a", "b", "z"} {
			isNone(t, strings.Repeat(c, many))
		}
	}
	for _, n := range []int{0, 1, 28, 757, api.Names} {
		found := 0
		for k := int64(1); found < 5; k++ {
			x := new(big.Int).Add(new(big.Int).Lsh(big.NewInt(k), 64), big.NewInt(int64(n)))
			figures := x.Text(27)
			if strings.Contains(figures, "0") {
				continue
			}
			found++
			isNone(t, strings.Map(func(r rune) rune { return rune(abc[strings.IndexRune("123456789abcdefghijklmnopq", r)]) }, figures))
		}
	}
}

// P17.1: ErrArg, and nothing, of numbers out of bounds, and of those of which a figure is 0.
func TestTextNone(t *testing.T) {
	for _, n := range []int{
		math.MinInt, math.MinInt + 1, math.MinInt + 28, -1 << 32, 1 - 1<<32, -1 << 31, -api.Names, -531441, -757, -28, -27, -26, -2, -1, 0,
		27, 54, 81, 702, 729, 730, 755, 756, 1458, 19683, 19684, 19710, 19711, 20439, 20412, 39366, 511758,
		531441, 531442, 531468, 551880, 551881, 551882, 14348906, 14348907,
		1 << 31, 1<<32 + 1, 1<<32 + 28, 1 << 40, math.MaxInt - 1, math.MaxInt,
	} {
		isNoNumber(t, n)
	}
	for n := 1; n < 27; n++ {
		isName(t, abc[n-1:n], n)
	}
}

// P17.1, P17.4: all numbers, and some beyond both ends: which have a name, and which; each name has its number.
func TestAll(t *testing.T) {
	byNumber := map[int]string{}
	for _, s := range allNames() {
		byNumber[numberOf(s)] = s
	}
	if len(byNumber) != 26+26*26+26*26*26+26*26*26*26 {
		t.Fatalf("%d numbers", len(byNumber))
	}
	for n := -2000; n < api.Names+60000; n++ {
		if s, ok := byNumber[n]; ok {
			isName(t, s, n)
		} else {
			isNoNumber(t, n)
		}
		if t.Failed() {
			t.FailNow()
		}
	}
}

// P17.4: Of of each Text and Text of each Of, by the calls alone.
func TestToldBack(t *testing.T) {
	many := 0
	for n := range api.Names + 1 {
		s, e := Text(n)
		if e != api.OK {
			continue
		}
		many++
		if back, e := Of(s); back != n || e != api.OK {
			t.Fatalf("%d: %q, and back: %d, %d", n, s, back, e)
		}
	}
	if many != 475254 {
		t.Errorf("%d numbers have names", many)
	}
	for _, s := range allNames() {
		n, _ := Of(s)
		if back, e := Text(n); back != s || e != api.OK {
			t.Fatalf("%q: %d, and back: %q, %d", s, n, back, e)
		}
	}
}

// P17.4: longer names have greater numbers; of as many letters the one that is greater byte by byte.
func TestOrder(t *testing.T) {
	last := 0
	for _, s := range allNames() {
		n, e := Of(s)
		if n <= last || n > api.Names || e != api.OK {
			t.Fatalf("%q: %d, %d, behind %d", s, n, e, last)
		}
		last = n
	}
	for _, a := range someNames() {
		for _, b := range someNames() {
			m, _ := Of(a)
			n, _ := Of(b)
			if less := len(a) < len(b) || len(a) == len(b) && a < b; less != (m < n) {
				t.Errorf("%q and %q: %d and %d", a, b, m, n)
			}
		}
	}
}

// P17.2: paths and their names' numbers; the chapter's example first.
func TestPaths(t *testing.T) {
	isPath(t, "/b/aa", []int{2, 28})
	isPath(t, "/", nil)
	isPath(t, "/", []int{})
	isPath(t, "/a", []int{1})
	isPath(t, "/zzzz", []int{531440})
	isPath(t, "/a/z/aa/zzz/zzzz", []int{1, 26, 28, 19682, 531440})
	isPath(t, "/zzzz/a/zzzz", []int{531440, 1, 531440})
	for many := 1; many <= 20; many++ {
		for _, s := range someNames() {
			isPath(t, strings.Repeat("/"+s, many), slices.Repeat([]int{numberOf(s)}, many))
		}
	}
	s := ""
	for _, part := range someNames() {
		s += "/" + part
	}
	isPath(t, s, []int{1, 2, 13, 25, 26, 28, 53, 55, 365, 703, 728, 757, 1432, 19007, 19682, 20440, 38690, 276647, 531415, 531440})
}

// P17.2: ErrArg, and none, of what is no path.
func TestPathNone(t *testing.T) {
	long := strings.Repeat("/a", 20)
	for _, s := range []string{
		"", "a", "aa", "a/", "a/b", "aaaa/b", "//", "///", "//a", "/a/", "/a//", "/a//b", "/a/b/", "//a/b", "/ /a", " /a", "/a ", "/ a", "/a b", "/a/ ",
		"/A", "/a/B", "/a1", "/1", "/.", "/..", "/a/../b", "/{", "/`", "/a\x00", "\x00/a", "/a\x00/b", "/a\n", "\\a", "/a\\b", "a:/b",
		"/abcde", "/aaaaa", "/abcde/a", "/a/abcde", "/a/abcde/b", "/é", "/a/é", "/\xff", "/a/\xe1", "／a", "/a／b", "é", "\xff",
		long + "/a", long + "/", long + "/zzzz", long + "a/aaaaa", "/" + long, long + "/A", long + long, long[1:], long + "//",
		strings.Repeat("/zzzz", 21), strings.Repeat("/a", 22), strings.Repeat("/a", 40), strings.Repeat("/a", 41), strings.Repeat("a", 20), strings.Repeat("/", 20), strings.Repeat("/", 21), strings.Repeat("/", 22),
	} {
		isNoPath(t, s)
	}
}

// P17.2: what is no name, and each byte, at each place of a path of 20 names and of shorter ones.
func TestPathPlaces(t *testing.T) {
	for _, many := range []int{1, 2, 3, 19, 20} {
		for at := range many {
			for _, none := range []string{"", "A", "aaaaa", "a ", "é", "a1", "`", "{", "\xff", "aaaa\x00"} {
				parts := slices.Repeat([]string{"mn"}, many)
				parts[at] = none
				// Of one empty name there is the path of no name.
				if s := "/" + strings.Join(parts, "/"); s != "/" {
					isNoPath(t, s)
				}
			}
		}
	}
	for _, s := range []string{"/a", "/az/b", "/zaz/name", strings.Repeat("/zzzz", 19) + "/z"} {
		for at := range s {
			for c := range 256 {
				for _, x := range []string{s[:at] + string([]byte{byte(c)}) + s[at+1:], s[:at] + string([]byte{byte(c)}) + s[at:]} {
					if pathForm.MatchString(x) {
						isPath(t, x, numbersOf(x))
					} else {
						isNoPath(t, x)
					}
				}
			}
		}
	}
}

// P17.2: ErrArg, and nothing, of more than 20 names, and of a number that is no name's, at each place.
func TestJoinNone(t *testing.T) {
	for _, many := range []int{21, 22, 40, 1000, 1 << 16, 1<<16 + 1} {
		isNoRow(t, slices.Repeat([]int{1}, many))
		isNoRow(t, slices.Repeat([]int{0}, many))
	}
	for _, none := range []int{math.MinInt, math.MinInt + 28, -531440, -28, -1, 0, 27, 54, 729, 730, 756, 19683, 531441, 551881, 1<<32 + 1, 1 << 40, math.MaxInt} {
		for _, many := range []int{1, 2, 3, 19, 20, 21} {
			for at := range many {
				l := slices.Repeat([]int{28}, many)
				l[at] = none
				isNoRow(t, l)
			}
		}
	}
}

// P17.2, P17.4: Path of each Join, and Join of each Path, of drawn rows; each answer as the words tell it.
func TestRowsToldBack(t *testing.T) {
	for seed := range 3000 {
		pick := picker(seed)
		l := drawn(pick, seed%21)
		s, e := Join(l)
		if e != api.OK || !pathForm.MatchString(s) || !slices.Equal(numbersOf(s), l) {
			t.Fatalf("Join(%v): %q, %d", l, s, e)
		}
		back, e := Path(s)
		if e != api.OK || !slices.Equal(back, l) {
			t.Fatalf("%v: %q, and back: %v, %d", l, s, back, e)
		}
		if again, e := Join(back); again != s || e != api.OK {
			t.Fatalf("%q: %v, and back: %q, %d", s, back, again, e)
		}
	}
}

// P17.2: drawn texts of few signs, many of them paths but for one: each answer as the words tell it.
func TestDrawnTexts(t *testing.T) {
	const signs = "//azm{`A \xe1"
	paths := 0
	for seed := range 20000 {
		pick := picker(seed)
		s, _ := Join(drawn(pick, pick(22)%21))
		b := []byte(s)
		for range pick(3) {
			at, c := pick(len(b)), signs[pick(len(signs))]
			switch pick(3) {
			case 0:
				b[at] = c
			case 1:
				b = slices.Insert(b, at, c)
			default:
				b = append(slices.Delete(b, at, at+1), '/')
			}
		}
		if pathForm.Match(b) {
			paths++
			isPath(t, string(b), numbersOf(string(b)))
		} else {
			isNoPath(t, string(b))
		}
	}
	if paths < 2000 || paths > 18000 {
		t.Errorf("%d paths", paths)
	}
}

// P17.3: the beginning of a row, or the row itself, worked out by hand.
func TestWithin(t *testing.T) {
	l := []int{1, 2, 3, 4, 5}
	for _, x := range []struct {
		a, b []int
		is   bool
	}{
		{nil, nil, true}, {nil, []int{}, true}, {[]int{}, nil, true}, {[]int{}, []int{}, true},
		{nil, l, true}, {[]int{}, l, true}, {l, nil, false}, {l, []int{}, false}, {[]int{0}, nil, false}, {nil, []int{0}, true},
		{l, l, true}, {l, slices.Clone(l), true}, {l[:1], l, true}, {l[:4], l, true}, {l, l[:4], false}, {l, l[:1], false}, {l[:0], l[:0], true},
		{[]int{1, 2, 3, 4, 5, 6}, l, false}, {[]int{1, 2, 3, 4, 5, 0}, l, false}, {l, []int{1, 2, 3, 4, 5, 0}, true},
		// They part at their first, middle and last number.
		{[]int{9, 2, 3, 4, 5}, l, false}, {[]int{1, 2, 9, 4, 5}, l, false}, {[]int{1, 2, 3, 4, 9}, l, false},
		{[]int{9, 2, 3}, l, false}, {[]int{1, 9, 3}, l, false}, {[]int{1, 2, 9}, l, false}, {[]int{9}, l, false}, {[]int{2}, l, false},
		// The end, what is between, and the same numbers in another order are no beginning.
		{l[1:], l, false}, {l[4:], l, false}, {l[1:3], l, false}, {[]int{2, 1}, l, false}, {[]int{1, 3}, l, false}, {[]int{5, 4, 3, 2, 1}, l, false},
		{[]int{1, 1}, []int{1}, false}, {[]int{1}, []int{1, 1}, true}, {[]int{1, 1}, []int{1, 1}, true},
		// Rows that are no paths.
		{[]int{0}, []int{0, 27}, true}, {[]int{0}, []int{27, 0}, false}, {[]int{math.MinInt, -1}, []int{math.MinInt, -1, math.MaxInt}, true},
		{[]int{math.MinInt}, []int{math.MaxInt}, false}, {[]int{1 << 32}, []int{0}, false}, {[]int{1<<32 + 1}, []int{1}, false}, {[]int{-1}, []int{1}, false},
		{slices.Repeat([]int{7}, 21), slices.Repeat([]int{7}, 22), true}, {slices.Repeat([]int{7}, 22), slices.Repeat([]int{7}, 21), false},
	} {
		if got := Within(x.a, x.b); got != x.is {
			t.Errorf("Within(%v, %v): %v", x.a, x.b, got)
		}
	}
	// What lies behind a row's end is no part of it.
	if Within(l, append(slices.Clone(l), 6)[:4]) {
		t.Error("a row's spare numbers")
	}
}

// P17.3: all pairs of short rows, held against rows as texts.
func TestWithinPairs(t *testing.T) {
	rows := [][]int{nil}
	for i := 0; len(rows[i]) < 5; i++ {
		for n := range 3 {
			rows = append(rows, append(slices.Clone(rows[i]), n))
		}
	}
	text := func(l []int) string {
		s := ""
		for _, n := range l {
			s += abc[n : n+1]
		}
		return s
	}
	for _, a := range rows {
		for _, b := range rows {
			if got := Within(a, b); got != strings.HasPrefix(text(b), text(a)) {
				t.Fatalf("Within(%v, %v): %v", a, b, got)
			}
		}
	}
}

// P17.3, P17.4: a path's beginnings are those rows whose texts, and a slash behind, the path's text begins with.
func TestWithinPaths(t *testing.T) {
	for seed := range 500 {
		pick := picker(seed)
		b := drawn(pick, 1+pick(20))
		a := slices.Clone(b[:pick(len(b)+1)])
		if len(a) > 0 && pick(2) == 0 {
			a[pick(len(a))] = drawn(pick, 1)[0]
		}
		whole, _ := Join(b)
		s, _ := Join(a)
		if want := strings.HasPrefix(whole+"/", strings.TrimRight(s, "/")+"/"); Within(a, b) != want {
			t.Fatalf("%q, %q: %v", s, whole, !want)
		}
	}
}

// R1: no call panics, and all end soon, at very long texts and rows.
func TestLong(t *testing.T) {
	const many = 1 << 22
	for _, s := range []string{"a", "z", "/", "A", "\xff", "\x00", "/a", "/aaaa", "a/", "/aaaaa", "é"} {
		long := strings.Repeat(s, many/len(s))
		isNone(t, long)
		isNoPath(t, long)
		isNoPath(t, "/"+long)
		isNoPath(t, long+"/")
		isNoPath(t, strings.Repeat("/a", 19)+"/"+long)
		isNoPath(t, strings.Repeat("/a", 20)+"/"+long)
	}
	row := slices.Repeat([]int{1}, many)
	if s, e := Join(row); s != "" || e != api.ErrArg {
		t.Errorf("a long row: %.40q, %d", s, e)
	}
	if !Within(row[1:], row) || Within(row, row[1:]) || !Within(row, row) {
		t.Error("Within of long rows")
	}
}

// R3: rows that are handed in aren't written into, not even behind their ends.
func TestHandedIn(t *testing.T) {
	pick := picker(1)
	for _, whole := range [][]int{drawn(pick, 40), append(drawn(pick, 10), 0, 27, -1, math.MaxInt, 1, 2, 3)} {
		was := slices.Clone(whole)
		for many := range len(whole) + 1 {
			Join(whole[:many])
			Within(whole[:many], was)
			Within(was, whole[:many])
			Within(whole[:many], whole[:many/2])
			if !slices.Equal(whole, was) {
				t.Fatalf("%d numbers: what was handed in is changed", many)
			}
		}
	}
}

// R3: who writes into a row that came out, or behind it, changes no other one; nor does one that is handed in stay another's.
func TestComesOut(t *testing.T) {
	for _, s := range []string{"/", "/a", "/b/aa", "/a/b/c/d/e", strings.Repeat("/zzzz", 20)} {
		first, _ := Path(s)
		second, _ := Path(s)
		for _, l := range [][]int{first[:cap(first)], append(first, 7, 8, 9)} {
			for i := range l {
				l[i] = -5
			}
		}
		third, _ := Path(s)
		if !slices.Equal(second, numbersOf(s)) || !slices.Equal(third, numbersOf(s)) {
			t.Errorf("%q: %v, %v", s, second, third)
		}
	}
	l := []int{2, 28}
	s, _ := Join(l)
	l[0] = 1
	if again, _ := Join(l); s != "/b/aa" || again != "/a/aa" {
		t.Errorf("%q, and then %q", s, again)
	}
}

// R4: the same arguments, the same answers, whatever was asked between.
func TestSameAnswers(t *testing.T) {
	for range 3 {
		isName(t, "name", numberOf("name"))
		isNone(t, "names")
		isNoNumber(t, 27)
		isPath(t, "/b/aa", []int{2, 28})
		isNoPath(t, "/b/aa/")
		isNoRow(t, []int{2, 28, 0})
		isPath(t, "/", nil)
		if !Within([]int{2}, []int{2, 28}) || Within([]int{28}, []int{2, 28}) {
			t.Error("Within")
		}
	}
}
