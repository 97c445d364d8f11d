package todo

import (
	"bytes"
	"math"
	"slices"
	"testing"

	"assart/api"
)

// minus is the nought below 0.
var minus = math.Copysign(0, -1)

// two is the 2 bytes of a number, the lowest first, worked out apart from num.
func two(n int) []byte { return []byte{byte(n), byte(n >> 8)} }

// bytesOf is the bytes that would tell tasks of these places and steps, be they right or not.
func bytesOf(l ...[2]int) []byte {
	b := two(len(l))
	for _, x := range l {
		b = append(append(b, two(x[0])...), byte(x[1]))
	}
	return b
}

// tasks are those of these places and steps.
func tasks(l ...[2]int) []complex128 {
	m := make([]complex128, len(l))
	for i, x := range l {
		m[i] = complex(float64(x[0]), float64(x[1]))
	}
	return m
}

// rights are the places and steps of tasks that are right, of 2000 cells.
func rights() [][][2]int {
	full := make([][2]int, 500)
	for i := range full {
		full[i] = [2]int{i * 7919 % 2000, i % 6}
	}
	return [][][2]int{
		{}, {{0, 0}}, {{3, 2}}, {{1999, 5}}, {{1999, 0}}, {{0, 5}}, {{255, 1}}, {{256, 1}}, {{258, 5}, {0, 0}, {3, 2}},
		// One place may stand there more than once, and with the same steps too.
		{{7, 0}, {7, 1}, {7, 1}, {7, 5}}, {{9, 3}, {8, 2}, {7, 1}}, full[:255], full[:256], full[:257], full[:499], full,
	}
}

// odd are parts of a task that are no whole numbers, or no numbers, or below 0, or greater than any place.
func odd() []float64 {
	return []float64{
		0.5, 1.5, 0.1, 1e-9, math.SmallestNonzeroFloat64, math.Nextafter(1, 0), math.Nextafter(1, 2), math.Nextafter(2, 0), math.Nextafter(4, 9), 2.9999999999,
		math.NaN(), math.Inf(1), math.Inf(-1),
		-1, -2, -5, -0.5, -1e-9, -math.SmallestNonzeroFloat64, -2000, -65536, -1 << 32, -1 << 63, -1e300, -math.MaxFloat64,
		2000, 2001, 65535, 65536, 65537, 1 << 31, 1 << 32, 1<<32 + 1, 1<<53 + 2, 1 << 62, 1 << 63, 1 << 64, 1<<64 + 1<<12, 1e300, math.MaxFloat64, 1999.5,
	}
}

// wrongs are tasks, each of which isn't right, of 2000 cells.
func wrongs() []complex128 {
	l := []complex128{6i, 7i, 255i, 256i, 1999 + 6i, 5.5i, complex(0, math.Nextafter(5, 6)), complex(math.Nextafter(1999, 2000), 0), -1 - 1i, 0.5 + 0.5i, complex(math.NaN(), math.NaN())}
	for _, x := range odd() {
		for _, y := range []float64{0, 3, 5} {
			l = append(l, complex(x, y))
		}
		for _, y := range []float64{0, 3, 1999} {
			l = append(l, complex(y, x))
		}
	}
	return l
}

func parsed(t *testing.T, b []byte, at, n int) ([]complex128, int) {
	t.Helper()
	l, behind, e := Parse(b, at, n)
	if e != api.OK {
		t.Fatalf("Parse of %v at %d, %d cells: %d", b, at, n, e)
	}
	return l, behind
}

func unparsed(t *testing.T, b []byte, at, n int) {
	t.Helper()
	if l, behind, e := Parse(b, at, n); e != api.ErrForm || behind != 0 || len(l) != 0 {
		t.Errorf("Parse of %v at %d, %d cells: %v, %d, %d", b, at, n, l, behind, e)
	}
}

// P6.1: a task's real part is its place, its imaginary part how many steps are done.
func TestOf(t *testing.T) {
	for p := range 2001 {
		for _, k := range []int{0, 1, 4, 5, 6, 255, 256, 1999, 2000} {
			for _, x := range [][2]int{{p, k}, {k, p}} {
				c := Of(x[0], x[1])
				if real(c) != float64(x[0]) || imag(c) != float64(x[1]) {
					t.Fatalf("Of(%d, %d): %v", x[0], x[1], c)
				}
				if Place(c) != x[0] || Done(c) != x[1] {
					t.Fatalf("%v: Place %d, Done %d", c, Place(c), Done(c))
				}
			}
		}
	}
}

// P6.1: a nought below 0 is a nought as any other one.
func TestNoughts(t *testing.T) {
	for _, x := range []struct {
		c    complex128
		p, k int
	}{{complex(minus, 3), 0, 3}, {complex(3, minus), 3, 0}, {complex(minus, minus), 0, 0}} {
		l := []complex128{x.c}
		if Place(x.c) != x.p || Done(x.c) != x.k {
			t.Errorf("%v: Place %d, Done %d", x.c, Place(x.c), Done(x.c))
		}
		if on := On(x.c); Place(on) != x.p || Done(on) != x.k+1 {
			t.Errorf("On(%v): %v", x.c, on)
		}
		if !Right(l, x.p+1) || Right(l, x.p) {
			t.Errorf("%v: Right", x.c)
		}
		if b := Print(l); !bytes.Equal(b, bytesOf([2]int{x.p, x.k})) {
			t.Errorf("Print of %v: %v", x.c, b)
		}
	}
}

// P6.1: the task with one step more, of the same place; it goes on one by one (P6.3).
func TestOn(t *testing.T) {
	for _, p := range []int{0, 1, 3, 255, 256, 1999, 2000} {
		c := Of(p, 0)
		for k := range 2000 {
			if c != complex(float64(p), float64(k)) || Place(c) != p || Done(c) != k {
				t.Fatalf("place %d, %d steps: %v", p, k, c)
			}
			c = On(c)
		}
	}
	if c := On(3 + 2i); c != 3+3i {
		t.Error(c)
	}
}

// P6.1: what is right, at all edges of places and steps.
func TestRight(t *testing.T) {
	for _, n := range []int{0, 1, 2, 5, 6, 255, 256, 1999, 2000} {
		if !Right(nil, n) || !Right([]complex128{}, n) {
			t.Errorf("no tasks of %d cells aren't right", n)
		}
		for _, p := range []int{0, 1, 2, 4, 5, 6, 254, 255, 256, 1998, 1999, 2000, 2001} {
			for k := range 9 {
				if got := Right(tasks([2]int{p, k}), n); got != (p < n && k <= 5) {
					t.Errorf("%d cells, place %d, %d steps: %v", n, p, k, got)
				}
			}
		}
	}
	for i, l := range rights() {
		if !Right(tasks(l...), 2000) {
			t.Errorf("%d isn't right", i)
		}
	}
}

// P6.1: parts that are no whole numbers, or no numbers, or below 0, or too great, aren't right, wherever they stand.
func TestRightNone(t *testing.T) {
	for i, c := range wrongs() {
		for _, n := range []int{0, 1, 2, 5, 1999, 2000} {
			if Right([]complex128{c}, n) {
				t.Errorf("%d: %v is right, of %d cells", i, c, n)
			}
		}
		for at := range 4 {
			l := tasks([2]int{0, 0}, [2]int{1999, 5}, [2]int{3, 2}, [2]int{3, 2})
			l[at] = c
			if Right(l, 2000) {
				t.Errorf("%d: %v is right, at %d", i, c, at)
			}
		}
		l := make([]complex128, 500)
		l[499] = c
		if Right(l, 2000) {
			t.Errorf("%d: %v is right, as the last of 500", i, c)
		}
	}
}

// P6.1: at most 500 tasks.
func TestRightMany(t *testing.T) {
	for _, x := range []struct {
		many int
		ok   bool
	}{{1, true}, {499, true}, {500, true}, {501, false}, {502, false}, {1000, false}, {65535, false}, {65536, false}, {65537, false}} {
		if got := Right(make([]complex128, x.many), 1); got != x.ok {
			t.Errorf("%d tasks: %v", x.many, got)
		}
	}
}

// P6.1: no tasks are right of a number of cells that no heap has; no call panics there.
func TestRightOf(t *testing.T) {
	for _, n := range []int{-1, -2, -2000, math.MinInt, math.MinInt + 1, 2001, 4000, 65536, 1 << 32, math.MaxInt} {
		for _, l := range [][]complex128{nil, {0}, {3 + 2i}, {complex(float64(n), 0)}, {-1}, {complex(math.NaN(), 0)}} {
			if Right(l, n) {
				t.Errorf("%v is right, of %d cells", l, n)
			}
		}
		unparsed(t, bytesOf([2]int{3, 2}), 0, n)
		unparsed(t, bytesOf([2]int{2000, 0}), 0, n)
	}
}

// P6.1: as many, of the same parts, in order.
func TestSame(t *testing.T) {
	l := append(rights(), [][2]int{{3, 3}}, [][2]int{{2, 2}}, [][2]int{{2, 3}}, [][2]int{{8, 2}, {9, 3}, {7, 1}}, [][2]int{{0, 0}, {0, 0}}, [][2]int{{0, 0}, {1, 0}}, [][2]int{{0, 0}, {0, 1}}, make([][2]int, 501))
	for i, a := range l {
		for j, b := range l {
			if got := Same(tasks(a...), tasks(b...)); got != (i == j) {
				t.Errorf("%d, %d: %v", i, j, got)
			}
		}
	}
	if !Same(nil, []complex128{}) || !Same([]complex128{}, nil) || Same(nil, []complex128{0}) || Same([]complex128{0}, nil) {
		t.Error("none")
	}
}

// P6.1: noughts are the same, whatever their signs; other numbers are the same just if they are one, right or not.
func TestSameNumbers(t *testing.T) {
	l := []float64{-1, 0.5, -0.5, 1, math.Nextafter(1, 2), 5, 1e300, math.MaxFloat64, math.SmallestNonzeroFloat64, -math.SmallestNonzeroFloat64, math.Inf(1), math.Inf(-1), 0, minus}
	isOne := func(i, j int) bool { return i == j || i >= 12 && j >= 12 }
	for i, a := range l {
		for j, b := range l {
			if got := Same([]complex128{complex(a, 2)}, []complex128{complex(b, 2)}); got != isOne(i, j) {
				t.Errorf("places %v and %v: %v", a, b, got)
			}
			if got := Same([]complex128{1, complex(2, a)}, []complex128{1, complex(2, b)}); got != isOne(i, j) {
				t.Errorf("steps %v and %v: %v", a, b, got)
			}
		}
	}
	if !Same([]complex128{complex(0, minus), complex(minus, 0)}, []complex128{complex(minus, 0), 0}) {
		t.Error("noughts")
	}
}

// P6.2: how many there are, and of each its place and its steps, each number's lowest byte first.
func TestPrint(t *testing.T) {
	if b := Print([]complex128{3 + 2i, 0, 258 + 5i, 1999 + 1i}); string(b) != "\x04\x00"+"\x03\x00\x02"+"\x00\x00\x00"+"\x02\x01\x05"+"\xcf\x07\x01" {
		t.Errorf("%v", b)
	}
	for _, none := range [][]complex128{nil, {}} {
		if b := Print(none); string(b) != "\x00\x00" {
			t.Errorf("no tasks: %v", b)
		}
	}
	for i, l := range rights() {
		if b := Print(tasks(l...)); !bytes.Equal(b, bytesOf(l...)) {
			t.Errorf("%d: %v", i, b)
		}
	}
	if b := Print(make([]complex128, 500)); len(b) != 1502 || b[0] != 0xf4 || b[1] != 1 {
		t.Errorf("500 tasks: %d bytes", len(b))
	}
	for p := range 2000 {
		for k := range 6 {
			x := [2]int{p, k}
			if b := Print(tasks(x)); !bytes.Equal(b, bytesOf(x)) {
				t.Fatalf("%v: %v", x, b)
			}
		}
	}
}

// P6.2: no call panics at tasks that aren't right: they have no bytes.
func TestPrintNone(t *testing.T) {
	for i, c := range wrongs() {
		if b := Print([]complex128{c}); len(b) != 0 {
			t.Errorf("%d: %v: %v", i, c, b)
		}
		if b := Print([]complex128{1, c, 2}); len(b) != 0 {
			t.Errorf("%d: %v among others: %v", i, c, b)
		}
	}
	for _, many := range []int{501, 65536, 65537} {
		if b := Print(make([]complex128, many)); len(b) != 0 {
			t.Errorf("%d tasks: %d bytes", many, len(b))
		}
	}
}

// P6.2: the tasks whose bytes stand there, and the place behind.
func TestParse(t *testing.T) {
	for i, x := range rights() {
		b := bytesOf(x...)
		for _, ahead := range []string{"", "\x00", "\x01\x00", "ahead, and more"} {
			for _, behind := range []string{"", "\x00", "\x00\x00\x00", "\xff\xff\xff\xff"} {
				whole := slices.Concat([]byte(ahead), b, []byte(behind))
				if l, at := parsed(t, whole, len(ahead), 2000); at != len(ahead)+len(b) || !slices.Equal(l, tasks(x...)) {
					t.Errorf("%d, at %d: %v, %d", i, len(ahead), l, at)
				}
			}
		}
	}
	// No tasks are right of any heap, of one without cells too.
	for _, n := range []int{0, 1, 2000} {
		if l, at := parsed(t, []byte{9, 0, 0}, 1, n); len(l) != 0 || at != 3 {
			t.Errorf("%d cells: %v, %d", n, l, at)
		}
	}
}

// P6.2: of n cells: each place that two bytes tell, and each number of steps that one tells.
func TestParseOf(t *testing.T) {
	for p := range 65536 {
		for _, n := range []int{0, 1, p, p + 1, 2000} {
			b := bytesOf([2]int{p, p % 6})
			if p < n && n <= 2000 {
				if l, at := parsed(t, b, 0, n); at != 5 || len(l) != 1 || l[0] != complex(float64(p), float64(p%6)) {
					t.Fatalf("place %d, %d cells: %v, %d", p, n, l, at)
				}
			} else if unparsed(t, b, 0, n); t.Failed() {
				t.FailNow()
			}
		}
	}
	for k := range 256 {
		for _, p := range []int{0, 3, 258, 1999} {
			b := bytesOf([2]int{p, k})
			if k <= 5 {
				if l, at := parsed(t, b, 0, p+1); at != 5 || len(l) != 1 || l[0] != complex(float64(p), float64(k)) {
					t.Fatalf("place %d, %d steps: %v, %d", p, k, l, at)
				}
			} else {
				unparsed(t, b, 0, p+1)
			}
		}
	}
}

// P6.2: ErrForm, none, and 0, where a byte is missing, or there is no such place.
func TestParseShort(t *testing.T) {
	for _, x := range rights() {
		b := bytesOf(x...)
		for short := range b {
			unparsed(t, b[:short], 0, 2000)
		}
		for _, at := range []int{-1, -2, -len(b), len(b), len(b) + 1, math.MinInt, math.MinInt + 1, math.MaxInt, math.MaxInt - 1, math.MaxInt - 2, 1 << 32, -1 << 32} {
			unparsed(t, b, at, 2000)
		}
	}
	for _, none := range [][]byte{nil, {}, {0}, {1}} {
		unparsed(t, none, 0, 2000)
	}
	for _, b := range []string{"\x01\x00", "\x01\x00\x00\x00", "\x02\x00\x00\x00\x00", "\x00\x01\x00\x00\x00", "\xff\xff", "\xff\xff\x00\x00\x00"} {
		unparsed(t, []byte(b), 0, 2000)
	}
}

// P6.2: ErrForm, if one of them isn't right, or they are too many.
func TestParseWrong(t *testing.T) {
	for _, wrong := range [][2]int{{2000, 0}, {2001, 0}, {65535, 0}, {0, 6}, {0, 7}, {0, 128}, {0, 255}, {1999, 6}, {65535, 255}} {
		for at := range 4 {
			l := [][2]int{{0, 0}, {1999, 5}, {3, 2}, {3, 2}}
			l[at] = wrong
			unparsed(t, bytesOf(l...), 0, 2000)
		}
		l := make([][2]int, 500)
		l[499] = wrong
		unparsed(t, bytesOf(l...), 0, 2000)
	}
	for _, many := range []int{501, 502, 511, 512, 1000, 65535} {
		unparsed(t, bytesOf(make([][2]int, many)...), 0, 2000)
	}
}

// P6.3: what is printed is parsed, wherever it stands; what is parsed has these bytes.
func TestPrintedIsParsed(t *testing.T) {
	for _, x := range rights() {
		l := tasks(x...)
		b := Print(l)
		for at := range 20 {
			whole := append(bytes.Repeat([]byte{byte(at)}, at), b...)
			got, behind := parsed(t, append(whole, whole...), at, 2000)
			if !Same(got, l) || behind != len(whole) {
				t.Fatalf("%v at %d: %v, %d", l, at, got, behind)
			}
			if again := Print(got); !bytes.Equal(again, b) {
				t.Fatalf("%v: %v, and then %v", l, b, again)
			}
		}
	}
	// One row behind another.
	var all []byte
	for _, x := range rights() {
		all = append(all, Print(tasks(x...))...)
	}
	at := 0
	for i, x := range rights() {
		var l []complex128
		if l, at = parsed(t, all, at, 2000); !Same(l, tasks(x...)) {
			t.Errorf("%d: %v", i, l)
		}
	}
	if at != len(all) {
		t.Errorf("behind all: %d, not %d", at, len(all))
	}
}

// P6.3: what goes on is printed and parsed at each step that is right.
func TestGoesOn(t *testing.T) {
	for c := Of(258, 0); ; c = On(c) {
		l := []complex128{c}
		if !Right(l, 259) {
			if Done(c) != 6 {
				t.Errorf("%v isn't right", c)
			}
			return
		}
		got, at := parsed(t, Print(l), 0, 259)
		if !Same(got, l) || at != 5 || Place(got[0]) != 258 {
			t.Errorf("%v: %v, %d", c, got, at)
		}
	}
}

// The chapter's example: 3 + 2i: block 3, two steps done.
func TestExample(t *testing.T) {
	if Place(3+2i) != 3 || Done(3+2i) != 2 || Of(3, 2) != 3+2i {
		t.Error(Place(3+2i), Done(3+2i), Of(3, 2))
	}
}

// R1: no call panics, and all end, at parts and numbers that may not be.
func TestEnds(t *testing.T) {
	for _, c := range wrongs() {
		Place(c)
		Done(c)
		On(c)
		Same([]complex128{c}, []complex128{c, c})
	}
	far := []int{math.MinInt, -1 << 32, -1, 2001, api.Most, 1 << 32, math.MaxInt}
	for _, p := range far {
		for _, k := range far {
			Of(p, k)
			Parse(bytesOf([2]int{3, 2}), p, k)
		}
	}
}

// R3: what is handed in isn't written into, not even behind its end.
func TestHandedIn(t *testing.T) {
	whole := tasks([2]int{3, 2}, [2]int{258, 5}, [2]int{0, 0}, [2]int{7, 1})
	was := slices.Clone(whole)
	b := slices.Concat([]byte("ahead"), bytesOf([2]int{3, 2}, [2]int{258, 5}), []byte("behind"))
	wasB := bytes.Clone(b)
	for n := range len(whole) + 1 {
		Print(whole[:n])
		Right(whole[:n], 2000)
		Right(whole[:n], 5)
		Same(whole[:n], whole)
	}
	for n := range len(b) + 1 {
		for at := range n + 1 {
			Parse(b[:n], at, 2000)
		}
	}
	if !slices.Equal(whole, was) || !bytes.Equal(b, wasB) {
		t.Error("what was handed in is changed")
	}
}

// R3: who writes into an answer, or behind it, changes neither what was handed in nor another answer.
func TestAnswersAreTheirOwn(t *testing.T) {
	l := tasks([2]int{3, 2}, [2]int{258, 5}, [2]int{0, 0})
	b := Print(l)
	want := bytes.Clone(b)
	other := Print(l)
	clear(other)
	_ = append(other, 9)
	got, _ := parsed(t, b, 0, 2000)
	clear(got)
	_ = append(got, 9)
	again, _ := parsed(t, b, 0, 2000)
	clear(b)
	if !Same(again, tasks([2]int{3, 2}, [2]int{258, 5}, [2]int{0, 0})) || !Same(again, l) || !bytes.Equal(Print(l), want) {
		t.Error("one answer changes another")
	}
}

// R4: the same arguments, the same answers.
func TestSameAnswers(t *testing.T) {
	l := tasks([2]int{3, 2}, [2]int{258, 5})
	b := bytesOf([2]int{3, 2}, [2]int{258, 5})
	for range 3 {
		for _, c := range wrongs() {
			Print([]complex128{c})
			Right([]complex128{c}, 2000)
		}
		Parse([]byte{1}, 0, 9)
		got, at := parsed(t, b, 0, 259)
		if !Same(got, l) || at != len(b) || !bytes.Equal(Print(l), b) || !Right(l, 259) || Right(l, 258) {
			t.Fatal("another answer")
		}
	}
}
