package node

import (
	"hash/crc32"
	"math"
	"slices"
	"strings"
	"testing"

	"assart/api"
)

const top = 1<<32 - 1 // the greatest number of 4 bytes

// four is the 4 bytes of a number, the lowest first, worked out apart from num.
func four(n int) string { return string([]byte{byte(n), byte(n >> 8), byte(n >> 16), byte(n >> 24)}) }

// sealed is the block of 36 bytes that begins with s, worked out apart from num.
func sealed(s string) string {
	s += strings.Repeat("\x00", 36-len(s))
	return s + four(int(crc32.ChecksumIEEE([]byte(s))))
}

// body is the bytes of a node of at most 4 items, right or not, ahead of the bytes 0.
func body(n api.Node) string {
	s := "\x02"
	if n.Leaf {
		s = "\x01"
	}
	s += string([]byte{byte(len(n.It))})
	for _, x := range n.It {
		s += four(x.K) + four(x.V)
	}
	return s
}

// leaf and inner are nodes of these items, in memory of their own.
func leaf(l ...api.Item) api.Node  { return api.Node{Leaf: true, It: l} }
func inner(l ...api.Item) api.Node { return api.Node{It: l} }

// both are a leaf and another node of these items.
func both(l ...api.Item) []api.Node { return []api.Node{leaf(l...), inner(slices.Clone(l)...)} }

// keys are items of these keys, each with a value of its own.
func keys(l ...int) []api.Item {
	var it []api.Item
	for i, k := range l {
		it = append(it, api.Item{K: k, V: 100 + i})
	}
	return it
}

// counted is n items, each another one.
func counted(n int) []api.Item {
	l := make([]api.Item, n)
	for i := range l {
		l[i] = api.Item{K: 3*i + 1, V: 7 * i}
	}
	return l
}

// roomy is a list with room behind it, and all of that memory.
func roomy(l []api.Item) ([]api.Item, []api.Item) {
	whole := append(slices.Clone(l), keys(-7, -8, -9, -10, -11)...)
	return whole[:len(l)], whole
}

// same is Same, worked out apart from it.
func same(a, b api.Node) bool { return a.Leaf == b.Leaf && sameItems(a.It, b.It) }

func sameItems(a, b []api.Item) bool {
	if len(a) != len(b) {
		return false
	}
	for i := range a {
		if a[i].K != b[i].K || a[i].V != b[i].V {
			return false
		}
	}
	return true
}

// rights are nodes that are right: of each number of items, at the edges of each number, and between.
func rights() []api.Node {
	var l []api.Node
	edges := []int{0, 1, 255, 256, 65535, 65536, 1<<24 - 1, 1 << 24, 0x04030201, api.Most - 1, api.Most}
	for _, k := range edges {
		for _, v := range edges {
			l = append(l, both(api.Item{K: k, V: v})...)
		}
	}
	most := api.Most
	for _, it := range [][]api.Item{
		{{K: 0}, {K: 1}},
		{{K: 0, V: most}, {K: most, V: 0}},
		{{K: most - 1, V: 5}, {K: most, V: 5}},
		{{K: 1, V: 258}, {K: 255, V: 3}, {K: 256, V: 2}},
		{{K: 7, V: 9}, {K: 8, V: 8}, {K: 9, V: 7}},
		{{K: 0}, {K: 1}, {K: 2}, {K: 3}},
		{{K: most - 3, V: most}, {K: most - 2, V: most}, {K: most - 1, V: most}, {K: most, V: most}},
		{{K: 0x01020304, V: 0x05060708}, {K: 0x11121314, V: 0x15161718}, {K: 0x21222324, V: 0x25262728}, {K: 0x31323334, V: 0x35363738}},
	} {
		l = append(l, both(it...)...)
	}
	return l
}

// wrongs are nodes that aren't right, many of them by one thing alone.
func wrongs() []api.Node {
	l := both()
	for _, n := range []int{5, 6, 8, 255, 256, 257, 258, 260} {
		l = append(l, both(counted(n)...)...)
	}
	for _, x := range []int{-1, -2, -1 << 31, -1 << 32, math.MinInt, 1 << 31, 1<<31 + 1, top, 1 << 32, 1<<32 + 1, 1<<32 + 5, math.MaxInt} {
		l = append(l, both(api.Item{K: x, V: 3})...)
		l = append(l, both(api.Item{K: 3, V: x})...)
		for at := range 4 {
			it := keys(10, 20, 30, 40)
			it[at].V = x
			l = append(l, both(it...)...)
		}
		// The key that may not be stands where it would rise.
		it := keys(10, 20, 30, x)
		if x < 0 {
			it = keys(x, 20, 30, 40)
		}
		l = append(l, both(it...)...)
	}
	for _, k := range [][]int{
		{1, 1}, {0, 0}, {2, 1}, {1, 0}, {api.Most, 0}, {api.Most, api.Most},
		{1, 1, 2}, {1, 2, 2}, {2, 1, 3}, {1, 3, 2}, {1, 2, 1}, {3, 2, 1},
		{1, 1, 2, 3}, {1, 2, 2, 3}, {1, 2, 3, 3}, {2, 1, 3, 4}, {1, 3, 2, 4}, {1, 2, 4, 3}, {1, 2, 3, 1}, {4, 3, 2, 1},
	} {
		l = append(l, both(keys(k...)...)...)
	}
	return l
}

// odd are blocks that are no right node's.
func odd() []string {
	full := body(inner(keys(10, 20, 30, 40)...))
	b := body(leaf(keys(10, 20)...))
	s := sealed(b)
	l := []string{
		"", "\x01", "\x01\x01", s[:1], s[:18], s[:36], s[:39], s + "\x00", s + s, " " + s[:39], s[1:] + "\x00",
		b + strings.Repeat("\x00", 40-len(b)),
		strings.Repeat("\x00", 40), strings.Repeat("\x01", 40), strings.Repeat("\x02", 40), strings.Repeat("\xff", 40),
		// Sealed, but of no item, or of too many.
		sealed(""), sealed("\x01"), sealed("\x02"), sealed("\x01\x00"), sealed("\x02\x00"),
		sealed("\x01\x00" + b[2:]), sealed("\x02\x00" + full[2:]),
		// Of fewer than stand there, or of more.
		sealed("\x01\x01" + b[2:]), sealed("\x02\x03" + full[2:]), sealed("\x01\x03" + b[2:]),
		// Other bytes ahead of it.
		sealed(b[1:]), sealed(b[2:]), sealed("\x00" + b), sealed("\x02" + b), sealed("\x01" + b),
	}
	for mark := range 256 {
		if mark != 1 && mark != 2 {
			l = append(l, sealed(string([]byte{byte(mark)})+b[1:]), sealed(string([]byte{byte(mark)})+full[1:]))
		}
	}
	for many := 5; many < 256; many++ {
		l = append(l, sealed("\x01"+string([]byte{byte(many)})+full[2:]), sealed("\x02"+string([]byte{byte(many)})))
	}
	// Right but for one byte behind.
	for _, n := range []api.Node{leaf(keys(10)...), inner(keys(10, 20)...), leaf(keys(10, 20, 30)...), inner(keys(10, 20, 30, 40)...)} {
		for at := len(body(n)); at < 36; at++ {
			ahead := body(n) + strings.Repeat("\x00", at-len(body(n)))
			l = append(l, sealed(ahead+"\x01"), sealed(ahead+"\x80"))
		}
	}
	// Numbers of 4 bytes that may not be, and keys that don't rise.
	for _, n := range wrongs() {
		if len(n.It) > 0 && len(n.It) <= 4 && fitsBytes(n) {
			l = append(l, sealed(body(n)))
		}
	}
	return l
}

// fitsBytes: are all its numbers such of 4 bytes?
func fitsBytes(n api.Node) bool {
	for _, x := range n.It {
		if x.K < 0 || x.K > top || x.V < 0 || x.V > top {
			return false
		}
	}
	return true
}

func printed(t *testing.T, n api.Node) string {
	t.Helper()
	b, e := Print(n)
	if e != api.OK || len(b) != api.Block {
		t.Fatalf("Print(%v): %q, %d", n, b, e)
	}
	return b
}

// P4.1: what is right.
func TestRight(t *testing.T) {
	for _, n := range rights() {
		if !Right(n) {
			t.Errorf("%v isn't right", n)
		}
	}
	for _, n := range wrongs() {
		if Right(n) {
			t.Errorf("%v is right", n)
		}
	}
}

// P4.1: two nodes are the same, if all of them is, right or not.
func TestSame(t *testing.T) {
	l := append(rights(), wrongs()...)
	for i, a := range l {
		for j, b := range l {
			if Same(a, b) != same(a, b) {
				t.Fatalf("%d, %d: Same of %v and %v: %v", i, j, a, b, Same(a, b))
			}
		}
		if b := (api.Node{Leaf: a.Leaf, It: slices.Clone(a.It)}); !Same(a, b) || !Same(b, a) {
			t.Errorf("%d: %v isn't the same as its copy", i, a)
		}
	}
	if !Same(api.Node{}, api.Node{It: []api.Item{}}) || !Same(leaf(), api.Node{Leaf: true, It: []api.Item{}}) {
		t.Error("no items: not the same")
	}
}

// P4.1: a node isn't the same as one that is other in one thing.
func TestNotSame(t *testing.T) {
	n := leaf(keys(10, 20, 30)...)
	for i, change := range []func(x *api.Node){
		func(x *api.Node) { x.Leaf = false },
		func(x *api.Node) { x.It[0].K = 9 },
		func(x *api.Node) { x.It[2].K = 31 },
		func(x *api.Node) { x.It[0].V++ },
		func(x *api.Node) { x.It[2].V++ },
		func(x *api.Node) { x.It[0], x.It[1] = x.It[1], x.It[0] },
		func(x *api.Node) { x.It = x.It[:2] },
		func(x *api.Node) { x.It = x.It[1:] },
		func(x *api.Node) { x.It = append(x.It, api.Item{}) },
		func(x *api.Node) { x.It = nil },
	} {
		x := leaf(keys(10, 20, 30)...)
		change(&x)
		if Same(n, x) || Same(x, n) {
			t.Errorf("%d: the same", i)
		}
	}
}

// P4.1: the block: what it is, how many items, each item's K and V, bytes 0, and the check sum.
func TestPrint(t *testing.T) {
	want := "\x01\x02\x01\x00\x00\x00\x02\x01\x00\x00\xff\xff\xff\x7f\x04\x03\x02\x01" + strings.Repeat("\x00", 18)
	want += four(int(crc32.ChecksumIEEE([]byte(want))))
	n := leaf(api.Item{K: 1, V: 258}, api.Item{K: api.Most, V: 0x01020304})
	if b, e := Print(n); b != want || e != api.OK {
		t.Errorf("Print: %q, %d, not %q", b, e, want)
	}
	for _, n := range rights() {
		if b, e := Print(n); b != sealed(body(n)) || e != api.OK {
			t.Errorf("Print(%v): %q, %d", n, b, e)
		}
	}
}

// P4.1: ErrArg, and nothing, of one that isn't right.
func TestPrintNone(t *testing.T) {
	for _, n := range wrongs() {
		if b, e := Print(n); b != "" || e != api.ErrArg {
			t.Errorf("Print(%v): %q, %d", n, b, e)
		}
	}
}

// P4.1: the right node whose block it is.
func TestParse(t *testing.T) {
	for _, n := range rights() {
		if got, e := Parse(sealed(body(n))); !same(got, n) || e != api.OK {
			t.Errorf("Parse of the block of %v: %v, %d", n, got, e)
		}
	}
}

// P4.1: ErrForm, and none, of a block that is none's.
func TestParseNone(t *testing.T) {
	for i, b := range odd() {
		if n, e := Parse(b); n.Leaf || len(n.It) != 0 || e != api.ErrForm {
			t.Errorf("%d: Parse(%q): %v, %d", i, b, n, e)
		}
	}
}

// P4.1: ErrForm, and none, of a block that is spoilt in one byte, or cut short.
func TestParseSpoilt(t *testing.T) {
	for _, n := range []api.Node{leaf(keys(0)...), leaf(keys(1, 2)...), inner(keys(1, 2, 3)...), inner(keys(1, 256, 65536, api.Most)...)} {
		b := printed(t, n)
		for i := range len(b) {
			for x := 1; x < 256; x++ {
				spoilt := []byte(b)
				spoilt[i] ^= byte(x)
				if got, e := Parse(string(spoilt)); got.Leaf || len(got.It) != 0 || e != api.ErrForm {
					t.Fatalf("byte %d xor %d: %v, %d", i, x, got, e)
				}
			}
			if got, e := Parse(b[:i]); got.Leaf || len(got.It) != 0 || e != api.ErrForm {
				t.Fatalf("%d bytes: %v, %d", i, got, e)
			}
		}
	}
}

// P4.2: of a leaf the place of the first item whose K isn't below the key.
func TestAtLeaf(t *testing.T) {
	for _, x := range []struct {
		k   []int
		key int
		at  int
		is  bool
	}{
		{[]int{5}, 4, 0, false}, {[]int{5}, 5, 0, true}, {[]int{5}, 6, 1, false},
		{[]int{2, 4, 6}, 1, 0, false}, {[]int{2, 4, 6}, 2, 0, true}, {[]int{2, 4, 6}, 3, 1, false}, {[]int{2, 4, 6}, 4, 1, true},
		{[]int{2, 4, 6}, 5, 2, false}, {[]int{2, 4, 6}, 6, 2, true}, {[]int{2, 4, 6}, 7, 3, false},
		{[]int{1, 2, 3, 9}, 0, 0, false}, {[]int{1, 2, 3, 9}, 9, 3, true}, {[]int{1, 2, 3, 9}, 8, 3, false}, {[]int{1, 2, 3, 9}, 10, 4, false},
		{[]int{0, api.Most}, -1, 0, false}, {[]int{0, api.Most}, 0, 0, true}, {[]int{0, api.Most}, api.Most - 1, 1, false},
		{[]int{0, api.Most}, api.Most, 1, true}, {[]int{0, api.Most}, api.Most + 1, 2, false},
		{[]int{0, api.Most}, math.MinInt, 0, false}, {[]int{0, api.Most}, math.MaxInt, 2, false}, {[]int{0, 5}, 1 << 32, 2, false},
	} {
		if at, is := At(leaf(keys(x.k...)...), x.key); at != x.at || is != x.is {
			t.Errorf("At(leaf of %v, %d): %d, %v", x.k, x.key, at, is)
		}
	}
}

// P4.2: of another node the place of the last item whose K isn't above the key; 0, if there is none.
func TestAtOther(t *testing.T) {
	for _, x := range []struct {
		k   []int
		key int
		at  int
		is  bool
	}{
		{[]int{5}, 4, 0, false}, {[]int{5}, 5, 0, true}, {[]int{5}, 6, 0, false},
		{[]int{2, 4, 6}, 1, 0, false}, {[]int{2, 4, 6}, 2, 0, true}, {[]int{2, 4, 6}, 3, 0, false}, {[]int{2, 4, 6}, 4, 1, true},
		{[]int{2, 4, 6}, 5, 1, false}, {[]int{2, 4, 6}, 6, 2, true}, {[]int{2, 4, 6}, 7, 2, false},
		{[]int{1, 2, 3, 9}, 0, 0, false}, {[]int{1, 2, 3, 9}, 9, 3, true}, {[]int{1, 2, 3, 9}, 8, 2, false}, {[]int{1, 2, 3, 9}, 10, 3, false},
		{[]int{0, api.Most}, -1, 0, false}, {[]int{0, api.Most}, 0, 0, true}, {[]int{0, api.Most}, api.Most - 1, 0, false},
		{[]int{0, api.Most}, api.Most, 1, true}, {[]int{0, api.Most}, api.Most + 1, 1, false},
		{[]int{0, api.Most}, math.MinInt, 0, false}, {[]int{0, api.Most}, math.MaxInt, 1, false}, {[]int{0, 5}, 1 << 32, 1, false},
	} {
		if at, is := At(inner(keys(x.k...)...), x.key); at != x.at || is != x.is {
			t.Errorf("At(node of %v, %d): %d, %v", x.k, x.key, at, is)
		}
	}
}

// P4.2: both, of all nodes of keys up to 7, as the words say it.
func TestAtAll(t *testing.T) {
	for set := 1; set < 1<<8; set++ {
		var k []int
		for i := range 8 {
			if set>>i&1 == 1 {
				k = append(k, i)
			}
		}
		if len(k) > 4 {
			continue
		}
		for key := -1; key <= 8; key++ {
			in, below, upTo := false, 0, 0
			for _, x := range k {
				in = in || x == key
				if x < key {
					below++
				}
				if x <= key {
					upTo++
				}
			}
			if at, is := At(leaf(keys(k...)...), key); at != below || is != in {
				t.Fatalf("At(leaf of %v, %d): %d, %v", k, key, at, is)
			}
			if at, is := At(inner(keys(k...)...), key); at != max(upTo-1, 0) || is != in {
				t.Fatalf("At(node of %v, %d): %d, %v", k, key, at, is)
			}
		}
	}
}

// P4.3: the items without gone ones from a place on, and with more there instead.
func TestWith(t *testing.T) {
	l := keys(2, 4, 6)
	a, b := api.Item{K: 3, V: 1}, api.Item{K: 5, V: 2}
	for i, x := range []struct {
		at, gone int
		more     []api.Item
		want     []api.Item
	}{
		{0, 0, nil, l}, {3, 0, nil, l}, {1, 0, []api.Item{}, l},
		{0, 1, nil, l[1:]}, {2, 1, nil, l[:2]}, {0, 3, nil, nil}, {1, 1, nil, []api.Item{l[0], l[2]}}, {1, 2, nil, l[:1]},
		{0, 0, []api.Item{a}, []api.Item{a, l[0], l[1], l[2]}},
		{3, 0, []api.Item{a, b}, []api.Item{l[0], l[1], l[2], a, b}},
		{1, 1, []api.Item{a, b}, []api.Item{l[0], a, b, l[2]}},
		{1, 1, []api.Item{b, a}, []api.Item{l[0], b, a, l[2]}},
		{0, 3, []api.Item{b}, []api.Item{b}},
		{2, 1, []api.Item{l[2], l[2]}, []api.Item{l[0], l[1], l[2], l[2]}},
	} {
		if got := With(l, x.at, x.gone, x.more); !sameItems(got, x.want) {
			t.Errorf("%d: With(%v, %d, %d, %v): %v", i, l, x.at, x.gone, x.more, got)
		}
	}
	if got := With(nil, 0, 0, []api.Item{a}); !sameItems(got, []api.Item{a}) {
		t.Errorf("With of nothing: %v", got)
	}
	if got := With(nil, 0, 0, nil); len(got) != 0 {
		t.Errorf("With of nothing, and nothing: %v", got)
	}
}

// P4.3: With at all places, of more items than a node has, too.
func TestWithAll(t *testing.T) {
	for n := range 9 {
		for at := 0; at <= n; at++ {
			for gone := 0; gone <= n-at; gone++ {
				for m := range 4 {
					l, more := counted(n), keys(-1, -2, -3)[:m]
					var want []api.Item
					for i := 0; i <= n; i++ {
						if i == at {
							want = append(want, more...)
						}
						if i < n && (i < at || i >= at+gone) {
							want = append(want, l[i])
						}
					}
					if got := With(l, at, gone, more); !sameItems(got, want) {
						t.Fatalf("With of %d items, %d, %d, %d more: %v", n, at, gone, m, got)
					}
				}
			}
		}
	}
}

// P4.3: how long the rows are.
func TestSplit(t *testing.T) {
	for n, want := range [][]int{{}, {1}, {2}, {3}, {4}, {3, 2}, {3, 3}, {3, 4}, {3, 3, 2}, {3, 3, 3}, {3, 3, 4}, {3, 3, 3, 2}} {
		l := counted(n)
		rows := Split(l)
		if len(rows) != len(want) {
			t.Errorf("Split of %d items: %v", n, rows)
			continue
		}
		for i, m := range want {
			if !sameItems(rows[i], l[3*i:3*i+m]) {
				t.Errorf("Split of %d items: row %d: %v", n, i, rows[i])
			}
		}
	}
	if rows := Split(nil); len(rows) != 0 {
		t.Errorf("Split of nothing: %v", rows)
	}
}

// P4.4: what is split, one row behind the other, is what it was; each row has from 1 to 4, and all but the last one 3.
func TestSplitIsWhole(t *testing.T) {
	for _, n := range []int{0, 1, 4, 5, 12, 13, 99, 100, 101, 102, 2000, 100001} {
		var back []api.Item
		rows := Split(counted(n))
		for i, r := range rows {
			if len(r) < 1 || len(r) > api.PerNode || i < len(rows)-1 && len(r) != 3 {
				t.Fatalf("Split of %d items: row %d has %d", n, i, len(r))
			}
			back = append(back, r...)
		}
		if !sameItems(back, counted(n)) {
			t.Errorf("Split of %d items isn't what it was", n)
		}
	}
}

// P4.4: what is printed is parsed; what is parsed has that block.
func TestPrintedIsParsed(t *testing.T) {
	l := rights()
	for i := range 2000 {
		var it []api.Item
		for j := range 1 + i%4 {
			it = append(it, api.Item{K: (4*i+j)*104729 + j, V: (i + j) * i * 7919 % api.Most})
		}
		l = append(l, api.Node{Leaf: i%3 == 0, It: it})
	}
	for _, n := range l {
		b := printed(t, n)
		got, e := Parse(b)
		if !same(got, n) || !Same(got, n) || e != api.OK {
			t.Fatalf("%v: %v, %d", n, got, e)
		}
		if again := printed(t, got); again != b {
			t.Fatalf("%v: %q, and then %q", n, b, again)
		}
	}
}

// The chapter's example: Split of 5 items: 3 and 2.
func TestExample(t *testing.T) {
	l := keys(1, 2, 3, 4, 5)
	if rows := Split(l); len(rows) != 2 || !sameItems(rows[0], l[:3]) || !sameItems(rows[1], l[3:]) {
		t.Errorf("Split: %v", rows)
	}
}

// R1: no call panics, at nodes that aren't right and places that aren't there either.
func TestEnds(t *testing.T) {
	far := []int{math.MinInt, math.MinInt + 1, -1 << 32, -2, -1, 0, 1, 2, 3, 4, 5, 1 << 31, 1 << 32, math.MaxInt - 1, math.MaxInt}
	for _, n := range wrongs() {
		for _, key := range far {
			if at, is := At(n, key); at < 0 || at > len(n.It) || is && n.It[at].K != key {
				t.Errorf("At(%v, %d): %d, %v", n, key, at, is)
			}
		}
	}
	for _, l := range [][]api.Item{nil, keys(1), keys(1, 2, 3, 4)} {
		for _, at := range far {
			for _, gone := range far {
				if got := With(l, at, gone, keys(9)); len(got) < 1 || len(got) > len(l)+1 {
					t.Errorf("With(%v, %d, %d): %v", l, at, gone, got)
				}
			}
		}
	}
}

// R3: what is handed in isn't written into, not even behind its end.
func TestHandedIn(t *testing.T) {
	for n := range 6 {
		l, whole := roomy(counted(n))
		more, wholeMore := roomy(keys(50, 60))
		was, wasMore := slices.Clone(whole), slices.Clone(wholeMore)
		for at := 0; at <= n; at++ {
			for gone := 0; gone <= n-at; gone++ {
				With(l, at, gone, more)
				With(l, at, gone, l)
			}
		}
		for _, x := range []api.Node{{Leaf: true, It: l}, {It: l}} {
			Right(x)
			Print(x)
			At(x, 4)
			Same(x, x)
		}
		Split(l)
		if !sameItems(whole, was) || !sameItems(wholeMore, wasMore) {
			t.Errorf("%d items: what was handed in is changed", n)
		}
	}
}

// R3: who writes into what came out, or behind it, changes nothing that was handed in, nor another answer.
func TestAnswersAreTheirOwn(t *testing.T) {
	spoil := func(l []api.Item) {
		for i := range l {
			l[i] = api.Item{K: -5, V: -5}
		}
		_ = append(l, keys(-1, -2, -3, -4)...)
	}
	for n := range 12 {
		l, whole := roomy(counted(n))
		more, wholeMore := roomy(keys(50, 60))
		was, wasMore := slices.Clone(whole), slices.Clone(wholeMore)
		for at := 0; at <= n; at++ {
			for gone := 0; gone <= n-at; gone++ {
				one, two := With(l, at, gone, more), With(l, at, gone, more)
				want := slices.Clone(two)
				spoil(one)
				if !sameItems(two, want) {
					t.Fatalf("With of %d items, %d, %d: one answer changes the other", n, at, gone)
				}
				spoil(With(l, at, gone, nil))
			}
		}
		rows := Split(l)
		for i := range rows {
			spoil(rows[i])
			if i+1 < len(rows) && !sameItems(rows[i+1], Split(l)[i+1]) {
				t.Fatalf("Split of %d items: row %d changes the next one", n, i)
			}
		}
		if !sameItems(whole, was) || !sameItems(wholeMore, wasMore) {
			t.Errorf("%d items: an answer changes what was handed in", n)
		}
	}
	b := printed(t, leaf(keys(1, 2, 3)...))
	one, _ := Parse(b)
	spoil(one.It)
	if two, e := Parse(b); !same(two, leaf(keys(1, 2, 3)...)) || e != api.OK {
		t.Error("one node that is parsed changes another one")
	}
}

// R4: the same arguments, the same answers.
func TestSameAnswers(t *testing.T) {
	n := inner(keys(3, 5, 9)...)
	b := sealed(body(n))
	for range 3 {
		for _, x := range odd() {
			Parse(x)
		}
		for _, x := range append(rights(), wrongs()...) {
			Print(x)
			At(x, 5)
			Split(With(x.It, len(x.It)/2, 0, x.It))
		}
		if got, e := Parse(b); printed(t, n) != b || !same(got, n) || e != api.OK {
			t.Fatal("another answer")
		}
		if at, is := At(n, 8); at != 1 || is {
			t.Fatal("another place")
		}
	}
}
