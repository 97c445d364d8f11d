package grow

import (
	"math"
	"slices"
	"testing"

	"assart/api"
	"assart/audit"
	"assart/heap"
	"assart/tree"
)

const most = api.Most

// far are numbers that are neither keys nor values, nor places of the heaps here, nor -1.
var far = []int{math.MinInt, math.MinInt + 1, -1 << 32, -1<<32 + 1, -1 << 31, -2001, -2, 1 << 31, 1<<31 + 1, 1<<32 - 1, 1 << 32, 1<<32 + 1, math.MaxInt - 1, math.MaxInt}

// item is a leaf's item of a key.
func item(k int) api.Item { return api.Item{K: k, V: (10*k + 1) % most} }

func items(k ...int) []api.Item {
	var l []api.Item
	for _, x := range k {
		l = append(l, item(x))
	}
	return l
}

// leaf is a cell with a leaf of these keys.
func leaf(ref int, k ...int) api.Cell {
	return api.Cell{Ref: ref, N: api.Node{Leaf: true, It: items(k...)}}
}

// over is a cell with a node that is no leaf, of these keys and places in turn.
func over(ref int, kp ...int) api.Cell {
	c := api.Cell{Ref: ref}
	for i := 0; i+1 < len(kp); i += 2 {
		c.N.It = append(c.N.It, api.Item{K: kp[i], V: kp[i+1]})
	}
	return c
}

func of(c ...api.Cell) api.Heap { return api.Heap{C: c} }

// with is a heap with so many free cells more behind the others.
func with(h api.Heap, n int) api.Heap {
	h.C = append(slices.Clone(h.C), make([]api.Cell, n)...)
	return h
}

// made is a heap of free cells.
func made(t *testing.T, n, keep int) api.Heap {
	t.Helper()
	h, e := heap.New(n, keep)
	if e != api.OK {
		t.Fatalf("New(%d, %d): %d", n, keep, e)
	}
	return h
}

// deep is a heap's copy, in memory of its own.
func deep(h api.Heap) api.Heap {
	h.C = slices.Clone(h.C)
	for i := range h.C {
		h.C[i].N.It = slices.Clone(h.C[i].N.It)
	}
	return h
}

// same: are two heaps the same?
func same(a, b api.Heap) bool {
	return a.Keep == b.Keep && slices.EqualFunc(a.C, b.C, func(x, y api.Cell) bool {
		return x.Ref == y.Ref && x.Pin == y.Pin && x.N.Leaf == y.N.Leaf && slices.Equal(x.N.It, y.N.It)
	})
}

// free is how many cells are free.
func free(h api.Heap) int {
	n := 0
	for _, c := range h.C {
		if c.Ref == 0 && !c.Pin {
			n++
		}
	}
	return n
}

// picker is a row of numbers that look as if they were drawn; the same for the same seed.
func picker(seed int) func(n int) int {
	x := uint64(seed)*2654435761 + 12345
	return func(n int) int {
		x = x*6364136223846793005 + 1442695040888963407
		return int(x>>33) % n
	}
}

// whole is all a tree's items, its leaves' ones in a row.
func whole(h api.Heap, root int) []api.Item {
	if root == -1 {
		return nil
	}
	n := h.C[root].N
	if n.Leaf {
		return slices.Clone(n.It)
	}
	var l []api.Item
	for _, x := range n.It {
		l = append(l, whole(h, x.V)...)
	}
	return l
}

// height is how many nodes there are from a root to a leaf.
func height(h api.Heap, root int) int {
	if root == -1 {
		return 0
	}
	if n := h.C[root].N; !n.Leaf {
		return 1 + height(h, n.It[0].V)
	}
	return 1
}

// lay lays a node in the first free cell of a heap that is the caller's own, by the words alone.
func lay(h api.Heap, leaf bool, l []api.Item, held []int) int {
	for p, c := range h.C {
		if c.Ref != 0 || c.Pin {
			continue
		}
		for _, x := range l {
			if !leaf && !slices.Contains(held, x.V) {
				h.C[x.V].Ref++
			}
		}
		h.C[p] = api.Cell{Ref: 1, N: api.Node{Leaf: leaf, It: slices.Clone(l)}}
		return p
	}
	panic("no cell is free")
}

// loose is a Ref less, in a heap that is the caller's own, by the words alone.
func loose(h api.Heap, p int) {
	c := h.C[p]
	if h.C[p].Ref--; c.Ref > 1 {
		return
	}
	h.C[p] = api.Cell{Pin: true}
	for _, x := range c.N.It {
		if !c.N.Leaf && h.C[x.V].Ref > 0 {
			loose(h, x.V)
		}
	}
}

// anew makes a node anew with an item, in a heap that is the caller's own, by the words alone; p is -1 of no tree.
func anew(h api.Heap, p int, x api.Item) []api.Item {
	n := api.Node{Leaf: true}
	if p >= 0 {
		n = h.C[p].N
	}
	var l []api.Item
	var held []int
	if n.Leaf {
		for _, y := range n.It {
			if y.K < x.K {
				l = append(l, y)
			}
		}
		l = append(l, x)
		for _, y := range n.It {
			if y.K > x.K {
				l = append(l, y)
			}
		}
	} else {
		leads := 0
		for i, y := range n.It {
			if y.K <= x.K {
				leads = i
			}
		}
		below := anew(h, n.It[leads].V, x)
		for _, y := range below {
			held = append(held, y.V)
		}
		l = append(append(append(l, n.It[:leads]...), below...), n.It[leads+1:]...)
	}
	if len(l) == 5 {
		a, b := l[:3], l[3:]
		return []api.Item{{K: a[0].K, V: lay(h, n.Leaf, a, held)}, {K: b[0].K, V: lay(h, n.Leaf, b, held)}}
	}
	return []api.Item{{K: l[0].K, V: lay(h, n.Leaf, l, held)}}
}

// put is Put, worked out apart from it.
func put(h api.Heap, root, key, val int, isDeep bool) (api.Heap, int, api.Errno) {
	if key < 0 || key > most || val < 0 || val > most {
		return h, root, api.ErrArg
	}
	room := free(h)
	if !isDeep {
		room -= h.Keep
	}
	high := height(h, root)
	if high == 20 || room < 2*high+1 {
		return h, root, api.ErrFull
	}
	h = deep(h)
	l := anew(h, root, api.Item{K: key, V: val})
	top := l[0].V
	if len(l) == 2 {
		top = lay(h, false, l, []int{l[0].V, l[1].V})
	}
	if root >= 0 {
		loose(h, root)
	}
	return h, top, api.OK
}

// holds holds Put against what was worked out apart, and that what was handed in stays as it was; what comes out is told.
func holds(t *testing.T, h api.Heap, root, key, val int, isDeep bool) (api.Heap, int, api.Errno) {
	t.Helper()
	if !heap.Right(h) || !tree.Right(h, root) {
		t.Fatalf("the chapter doesn't speak of %v, root %d", h, root)
	}
	was := deep(h)
	want, top, f := put(h, root, key, val, isDeep)
	got, p, e := Put(h, root, key, val, isDeep)
	if !same(h, was) {
		t.Fatalf("Put(%d, %d, %d, %v): what was handed in is changed", root, key, val, isDeep)
	}
	if e != f || p != top || !same(got, want) {
		t.Fatalf("Put(%d, %d, %d, %v) of %v: root %d, %d, %v; not root %d, %d, %v", root, key, val, isDeep, h, p, e, got, top, f, want)
	}
	if !heap.Right(got) || !tree.Right(got, p) {
		t.Fatalf("Put(%d, %d, %d, %v) of %v: %v, root %d: not right", root, key, val, isDeep, h, got, p)
	}
	return got, p, e
}

// replaced is items with one more, instead of the one of its key.
func replaced(l []api.Item, x api.Item) []api.Item {
	l = slices.DeleteFunc(slices.Clone(l), func(y api.Item) bool { return y.K == x.K })
	at := 0
	for at < len(l) && l[at].K < x.K {
		at++
	}
	return slices.Insert(l, at, x)
}

// chain is a tree of so many nodes below one another, the last one a leaf of these keys; its root is its last cell.
func chain(high int, k ...int) api.Heap {
	h := of(leaf(1, k...))
	for p := range high - 1 {
		h.C = append(h.C, over(1, k[0], p))
	}
	return h
}

// full is a tree so high of which each node on the way to the keys from last on has 4 items, so that all of these are split; and its root.
func full(high int) (h api.Heap, root, last int) {
	last = 100 * high
	h = of(leaf(1, last, last+10, last+20, last+30))
	for up := 1; up < high; up++ {
		c := over(1)
		for i := range 3 {
			k := 100*(high-up) + i
			h.C = append(h.C, leaf(1, k))
			for range up - 1 {
				h.C = append(h.C, over(1, k, len(h.C)-1))
			}
			c.N.It = append(c.N.It, api.Item{K: k, V: len(h.C) - 1})
		}
		k := last
		if up > 1 {
			k = h.C[root].N.It[0].K
		}
		c.N.It = append(c.N.It, api.Item{K: k, V: root})
		root = len(h.C)
		h.C = append(h.C, c)
	}
	return h, root, last
}

// P9.1: of no tree, a leaf of that item is laid, in the first free cell.
func TestPutFirst(t *testing.T) {
	for _, x := range [][2]int{{0, 0}, {0, most}, {most, 0}, {most, most}, {7, 3}, {1, 1999}} {
		for _, h := range []api.Heap{made(t, 1, 0), made(t, 5, 4), made(t, 2000, 0), of(leaf(1, 1), api.Cell{Pin: true}, over(1, 1, 0), api.Cell{}, api.Cell{})} {
			want, at := deep(h), 0
			for h.C[at].Ref > 0 || h.C[at].Pin {
				at++
			}
			want.C[at] = api.Cell{Ref: 1, N: api.Node{Leaf: true, It: []api.Item{{K: x[0], V: x[1]}}}}
			if got, p, e := Put(h, -1, x[0], x[1], false); e != api.OK || p != at || !same(got, want) {
				t.Errorf("Put(%d, %d): %d, %d: %v", x[0], x[1], p, e, got)
			}
			holds(t, h, -1, x[0], x[1], false)
		}
	}
}

// P9.1: a leaf with an item in its place by its key, or instead of the one of that key; the old one waits.
func TestPutLeaf(t *testing.T) {
	pin := api.Cell{Pin: true}
	for i, x := range []struct {
		k    []int
		key  int
		want []int
	}{
		{[]int{5}, 4, []int{4, 5}}, {[]int{5}, 6, []int{5, 6}}, {[]int{5}, 5, []int{5}},
		{[]int{2, 4, 6}, 0, []int{0, 2, 4, 6}}, {[]int{2, 4, 6}, 3, []int{2, 3, 4, 6}}, {[]int{2, 4, 6}, 5, []int{2, 4, 5, 6}}, {[]int{2, 4, 6}, most, []int{2, 4, 6, most}},
		{[]int{2, 4, 6, 8}, 2, []int{2, 4, 6, 8}}, {[]int{2, 4, 6, 8}, 4, []int{2, 4, 6, 8}}, {[]int{2, 4, 6, 8}, 8, []int{2, 4, 6, 8}},
		{[]int{0, most}, 0, []int{0, most}}, {[]int{0, most}, most, []int{0, most}}, {[]int{1, most}, 0, []int{0, 1, most}},
	} {
		want := of(pin, leaf(1, x.want...), api.Cell{}, api.Cell{})
		for j := range want.C[1].N.It {
			if y := &want.C[1].N.It[j]; y.K == x.key {
				y.V = 77
			}
		}
		h := of(leaf(1, x.k...), api.Cell{}, api.Cell{}, api.Cell{})
		if got, p, e := Put(h, 0, x.key, 77, false); e != api.OK || p != 1 || !same(got, want) {
			t.Errorf("%d: %d, %d: %v", i, p, e, got)
		}
		// A leaf to which something else refers, too, stays.
		h.C[0].Ref = 3
		want.C[0] = leaf(2, x.k...)
		if got, p, e := Put(h, 0, x.key, 77, false); e != api.OK || p != 1 || !same(got, want) {
			t.Errorf("%d, shared: %d, %d: %v", i, p, e, got)
		}
	}
}

// P9.1: a leaf that is split: 3 and 2, each laid in order, and a node over them behind; they are held by that alone.
func TestPutSplit(t *testing.T) {
	for i, x := range []struct {
		key  int
		a, b []int
	}{
		{1, []int{1, 2, 4}, []int{6, 8}}, {3, []int{2, 3, 4}, []int{6, 8}}, {5, []int{2, 4, 5}, []int{6, 8}},
		{7, []int{2, 4, 6}, []int{7, 8}}, {9, []int{2, 4, 6}, []int{8, 9}}, {0, []int{0, 2, 4}, []int{6, 8}}, {most, []int{2, 4, 6}, []int{8, most}},
	} {
		h := of(leaf(1, 2, 4, 6, 8), api.Cell{}, api.Cell{Pin: true}, api.Cell{}, api.Cell{})
		want := of(api.Cell{Pin: true}, leaf(1, x.a...), api.Cell{Pin: true}, leaf(1, x.b...), over(1, x.a[0], 1, x.b[0], 3))
		if got, p, e := Put(h, 0, x.key, item(x.key).V, false); e != api.OK || p != 4 || !same(got, want) {
			t.Errorf("%d: %d, %d: %v", i, p, e, got)
		}
	}
}

// some is a sound heap of two trees, with the roots 7 and 9, that share nodes, and of free cells behind.
func some() (api.Heap, []int) {
	return with(of(
		leaf(2, 10, 11),                     // 0
		leaf(1, 20, 21, 22, 23),             // 1
		leaf(2, 30),                         // 2
		over(1, 10, 0, 20, 1, 30, 2, 40, 4), // 3
		leaf(1, 40, 41, 42, 43),             // 4
		leaf(1, 50),                         // 5
		over(2, 50, 5),                      // 6
		over(1, 10, 3, 50, 6),               // 7
		over(1, 10, 0, 30, 2),               // 8
		over(1, 10, 8, 50, 6),               // 9
		api.Cell{Pin: true},                 // 10
	), 20), []int{7, 9}
}

// P9.1: the way to a key is made anew from the leaf up, all else is held; worked out by hand.
func TestPutDeep(t *testing.T) {
	h, roots := some()
	if !audit.Sound(h, roots, nil) || !tree.Right(h, 7) || !tree.Right(h, 9) {
		t.Fatal("some: not sound")
	}
	pin := api.Cell{Pin: true}
	for i, x := range []struct {
		root, key int
		cells     map[int]api.Cell // of those whose cells are other ones than they were
		top       int
	}{
		// A key ahead of all: the least keys above are new, too. What isn't shared on the way waits.
		{7, 5, map[int]api.Cell{3: pin, 7: pin, 0: leaf(1, 10, 11), 11: leaf(1, 5, 10, 11), 12: over(1, 5, 11, 20, 1, 30, 2, 40, 4), 13: over(1, 5, 12, 50, 6)}, 13},
		// One that is there, in a tree that keeps its form.
		{7, 30, map[int]api.Cell{3: pin, 7: pin, 2: leaf(1, 30), 11: leaf(1, 30), 12: over(1, 10, 0, 20, 1, 30, 11, 40, 4), 13: over(1, 10, 12, 50, 6)}, 13},
		// Between two leaves: with the one ahead.
		{7, 39, map[int]api.Cell{3: pin, 7: pin, 2: leaf(1, 30), 11: leaf(1, 30, 39), 12: over(1, 10, 0, 20, 1, 30, 11, 40, 4), 13: over(1, 10, 12, 50, 6)}, 13},
		// Behind all: the other way down is left alone.
		{7, 99, map[int]api.Cell{7: pin, 6: over(1, 50, 5), 11: leaf(1, 50, 99), 12: over(1, 50, 11), 13: over(1, 10, 3, 50, 12)}, 13},
		// A leaf is split, and a node over it.
		{7, 24, map[int]api.Cell{1: pin, 3: pin, 7: pin, 11: leaf(1, 20, 21, 22), 12: leaf(1, 23, 24), 13: over(1, 10, 0, 20, 11, 23, 12), 14: over(1, 30, 2, 40, 4), 15: over(1, 10, 13, 30, 14, 50, 6)}, 15},
		{7, 49, map[int]api.Cell{4: pin, 3: pin, 7: pin, 11: leaf(1, 40, 41, 42), 12: leaf(1, 43, 49), 13: over(1, 10, 0, 20, 1, 30, 2), 14: over(1, 40, 11, 43, 12), 15: over(1, 10, 13, 40, 14, 50, 6)}, 15},
		// Of the other tree.
		{9, 10, map[int]api.Cell{0: leaf(1, 10, 11), 8: pin, 9: pin, 11: leaf(1, 10, 11), 12: over(1, 10, 11, 30, 2), 13: over(1, 10, 12, 50, 6)}, 13},
		{9, 20, map[int]api.Cell{0: leaf(1, 10, 11), 8: pin, 9: pin, 11: leaf(1, 10, 11, 20), 12: over(1, 10, 11, 30, 2), 13: over(1, 10, 12, 50, 6)}, 13},
	} {
		want := deep(h)
		for p, c := range x.cells {
			want.C[p] = c
		}
		got, p, e := Put(h, x.root, x.key, item(x.key).V, false)
		if e != api.OK || p != x.top || !same(got, want) {
			t.Errorf("%d: %d, %d: %v, not %v", i, p, e, got, want)
		}
		holds(t, h, x.root, x.key, item(x.key).V, false)
	}
}

// P9.1: as above, where all of a tree is shared, its root too: all that was stays, with a Ref more where the new tree tells it.
func TestPutShared(t *testing.T) {
	h, roots := some()
	h.C[7].Ref = 2
	roots = append(roots, 7)
	want := deep(h)
	want.C[7].Ref, want.C[0].Ref, want.C[1].Ref, want.C[2].Ref, want.C[6].Ref = 1, 3, 2, 3, 3
	want.C[11], want.C[12] = leaf(1, 40, 41, 42), leaf(1, 43, 44)
	want.C[13], want.C[14] = over(1, 10, 0, 20, 1, 30, 2), over(1, 40, 11, 43, 12)
	want.C[15] = over(1, 10, 13, 40, 14, 50, 6)
	got, p, e := Put(h, 7, 44, item(44).V, false)
	if e != api.OK || p != 15 || !same(got, want) || !audit.Sound(got, []int{7, 9, 15}, nil) || !audit.Sound(h, roots, nil) {
		t.Errorf("%d, %d: %v", p, e, got)
	}
}

// P9.1: a root that is split: a node over its two, behind both.
func TestPutRoot(t *testing.T) {
	h := with(of(leaf(1, 1, 2), leaf(1, 11, 12), leaf(1, 21, 22), leaf(1, 31, 32, 33, 34), over(1, 1, 0, 11, 1, 21, 2, 31, 3)), 6)
	pin := api.Cell{Pin: true}
	want := of(leaf(1, 1, 2), leaf(1, 11, 12), leaf(1, 21, 22), pin, pin, leaf(1, 31, 32, 33), leaf(1, 34, 35), over(1, 1, 0, 11, 1, 21, 2), over(1, 31, 5, 34, 6), over(1, 1, 7, 31, 8), api.Cell{})
	if got, p, e := Put(h, 4, 35, item(35).V, false); e != api.OK || p != 9 || !same(got, want) {
		t.Errorf("%d, %d: %v", p, e, got)
	}
	// The least key goes up, through both.
	h.C[0], h.C[3] = leaf(1, 1, 2, 3, 4), leaf(1, 31)
	want = of(pin, leaf(1, 11, 12), leaf(1, 21, 22), leaf(1, 31), pin, leaf(1, 0, 1, 2), leaf(1, 3, 4), over(1, 0, 5, 3, 6, 11, 1), over(1, 21, 2, 31, 3), over(1, 0, 7, 21, 8), api.Cell{})
	if got, p, e := Put(h, 4, 0, item(0).V, false); e != api.OK || p != 9 || !same(got, want) {
		t.Errorf("%d, %d: %v", p, e, got)
	}
}

// P9.1: ErrArg, and the heap and the root, unless key and val are from 0 to Most; ahead of ErrFull.
func TestPutArg(t *testing.T) {
	h, _ := some()
	tall := with(chain(20, 3), 100)
	none := of(leaf(1, 1), api.Cell{Pin: true})
	for _, n := range append([]int{-1}, far...) {
		for _, x := range [][2]int{{n, 3}, {3, n}, {n, n}, {n, 0}, {most, n}, {10, n}, {50, n}} {
			for _, isDeep := range []bool{false, true} {
				for _, y := range []struct {
					h    api.Heap
					root int
				}{{h, 7}, {h, 9}, {h, 5}, {h, -1}, {tall, 19}, {none, 0}, {none, -1}} {
					if got, p, e := Put(y.h, y.root, x[0], x[1], isDeep); e != api.ErrArg || p != y.root || !same(got, y.h) {
						t.Errorf("Put(%d, %d, %d): %d, %d", y.root, x[0], x[1], p, e)
					}
				}
			}
		}
	}
	for _, k := range []int{0, 1, most - 1, most} {
		for _, v := range []int{0, 1, most - 1, most} {
			got, p, e := holds(t, h, 7, k, v, false)
			if x, f := tree.Get(got, p, k); e != api.OK || x != v || f != api.OK {
				t.Errorf("Put(%d, %d): %d; Get: %d, %d", k, v, e, x, f)
			}
		}
	}
}

// P9.1: ErrFull, and the heap and the root, if there isn't room for Need of the height, deep or not, whatever the item needs.
func TestPutFull(t *testing.T) {
	for high := range 20 {
		need := 2*high + 1
		for n := max(need-3, 0); n <= need+3; n++ {
			for keep := range 5 {
				h, root := with(of(api.Cell{Pin: true}), n), -1
				if high > 0 {
					h, root = with(chain(high, 3), n), high-1
				}
				h.Keep = min(keep, len(h.C))
				for _, k := range []int{3, 1, 9} {
					if got, p, e := Put(h, root, k, 1, true); (e == api.OK) != (n >= need) || e != api.OK && (e != api.ErrFull || p != root || !same(got, h)) {
						t.Errorf("%d high, %d free, %d kept, deep: %d", high, n, keep, e)
					}
					if got, p, e := Put(h, root, k, 1, false); (e == api.OK) != (n-h.Keep >= need) || e != api.OK && (e != api.ErrFull || p != root || !same(got, h)) {
						t.Errorf("%d high, %d free, %d kept: %d", high, n, keep, e)
					}
					holds(t, h, root, k, 1, keep%2 == 0)
				}
			}
		}
	}
}

// P9.1: what waits is no room.
func TestPutWaits(t *testing.T) {
	h := of(leaf(1, 1), api.Cell{Pin: true}, api.Cell{}, api.Cell{Pin: true}, api.Cell{})
	for _, isDeep := range []bool{false, true} {
		if got, p, e := Put(h, 0, 2, 2, isDeep); e != api.ErrFull || p != 0 || !same(got, h) {
			t.Errorf("%d, %d", p, e)
		}
		if got, p, e := Put(heap.Settle(h), 0, 2, 2, isDeep); e != api.OK || p != 1 || !got.C[0].Pin {
			t.Errorf("%d, %d", p, e)
		}
	}
}

// P9.1, P9.3: where all nodes on the way are split, just as many cells are used as Need says; the tree is one node higher.
func TestPutMost(t *testing.T) {
	for high := 1; high < 20; high++ {
		h, root, last := full(high)
		if !tree.Right(h, root) || tree.High(h, root) != high || !audit.Sound(h, []int{root}, nil) {
			t.Fatalf("%d high: not right", high)
		}
		h = with(h, 2*high+1)
		got, p, e := holds(t, h, root, last+15, 7, false)
		if e != api.OK || free(got) != 0 || tree.High(got, p) != high+1 || !audit.Sound(got, []int{p}, nil) {
			t.Errorf("%d high: %d, %d free, %d high", high, e, free(got), tree.High(got, p))
		}
		// One that is there needs no more than the way.
		if got, p, e = holds(t, h, root, last+10, 7, false); e != api.OK || free(got) != high+1 || tree.High(got, p) != high {
			t.Errorf("%d high: %d, %d free, %d high", high, e, free(got), tree.High(got, p))
		}
	}
}

// P9.1: ErrFull, and the heap and the root, of a tree that is as high as can be, deep or not, however much room there is, and be the item there or not; one below that grows.
func TestPutHighest(t *testing.T) {
	h, root, last := full(20)
	c := chain(20, 5)
	for _, x := range []struct {
		h    api.Heap
		root int
		k    []int
	}{{with(h, 1000), root, []int{0, last, last + 5, most}}, {with(c, 1000), 19, []int{4, 5, 6}}} {
		for _, k := range x.k {
			for _, isDeep := range []bool{false, true} {
				if got, p, e := Put(x.h, x.root, k, 1, isDeep); e != api.ErrFull || p != x.root || !same(got, x.h) {
					t.Errorf("Put(%d): %d, %d", k, p, e)
				}
			}
		}
		// What is below the root is a tree of its own.
		for _, y := range x.h.C[x.root].N.It {
			if _, p, e := holds(t, x.h, y.V, y.K, 1, true); e != api.OK || p == y.V {
				t.Errorf("Put(%d) below: %d, %d", y.K, p, e)
			}
		}
	}
	h, root, last = full(19)
	h, root, e := Put(with(h, 1000), root, last+1, 1, false)
	if e != api.OK || tree.High(h, root) != 20 || !tree.Right(h, root) {
		t.Errorf("19 high: %d, then %d high", e, tree.High(h, root))
	}
	if got, p, e := Put(h, root, last+1, 2, true); e != api.ErrFull || p != root || !same(got, h) {
		t.Errorf("20 high: %d, %d", p, e)
	}
}

// grove is a heap with drawn trees that share nodes, each with its items; all in it is sound.
type grove struct {
	h     api.Heap
	roots []int
	items [][]api.Item
}

// change does one drawn thing to a grove: a tree more, a copy of one, one less, what waits is free, or an item is put.
func (g *grove) change(t *testing.T, pick func(n int) int, keys int) api.Errno {
	t.Helper()
	i := 0
	if len(g.roots) > 0 {
		i = pick(len(g.roots))
	}
	switch do := pick(20); {
	case len(g.roots) == 0 || do == 0 && len(g.roots) < 6:
		g.roots, g.items = append(g.roots, -1), append(g.items, nil)
	case do == 1 && len(g.roots) < 6:
		if g.roots[i] >= 0 {
			g.h, _ = heap.Hold(g.h, g.roots[i])
		}
		g.roots, g.items = append(g.roots, g.roots[i]), append(g.items, g.items[i])
	case do == 2:
		if g.roots[i] >= 0 {
			g.h, _ = heap.Loose(g.h, g.roots[i])
		}
		g.roots, g.items = slices.Delete(g.roots, i, i+1), slices.Delete(g.items, i, i+1)
	case do < 6:
		g.h = heap.Settle(g.h)
	default:
		x := api.Item{K: pick(keys), V: pick(1000)}
		was := free(g.h)
		need := tree.Need(tree.High(g.h, g.roots[i]))
		var e api.Errno
		g.h, g.roots[i], e = holds(t, g.h, g.roots[i], x.K, x.V, pick(4) == 0)
		if e != api.OK {
			return e
		}
		g.items[i] = replaced(g.items[i], x)
		if was-free(g.h) > need {
			t.Fatalf("%d cells used, not %d", was-free(g.h), need)
		}
	}
	return api.OK
}

// P9.1, P9.3: drawn trees that share nodes: each call answers what was worked out apart; the new tree has the old one's items and that one, all others have what they had, and all is sound.
func TestGrove(t *testing.T) {
	done := map[api.Errno]int{}
	high := 0
	for seed := range 60 {
		pick := picker(seed)
		size := 1 + pick(120)
		g := &grove{h: made(t, size, pick(size/6+1))}
		keys := 1 + pick(80)
		for i := range 250 {
			done[g.change(t, pick, keys)]++
			if !audit.Sound(g.h, g.roots, nil) {
				t.Fatalf("%d, %d: %v, roots %v: not sound", seed, i, g.h, g.roots)
			}
			for j, r := range g.roots {
				if !tree.Right(g.h, r) || !slices.Equal(whole(g.h, r), g.items[j]) || !slices.Equal(tree.Scan(g.h, r, 0, keys), g.items[j]) {
					t.Fatalf("%d, %d: the tree %d has %v, not %v", seed, i, r, whole(g.h, r), g.items[j])
				}
				high = max(high, tree.High(g.h, r))
			}
		}
	}
	if len(done) != 2 || done[api.OK] < 5000 || done[api.ErrFull] < 1000 || high < 4 {
		t.Errorf("%v, and %d high", done, high)
	}
}

// laid is a tree of these keys, its nodes at drawn places of a heap of n cells, with drawn Refs, and what else a right heap may have around; and its root.
func laid(pick func(n int) int, n int, keys []int) (api.Heap, int) {
	h := api.Heap{C: make([]api.Cell, n), Keep: pick(4)}
	order := make([]int, n)
	for i := range order {
		j := pick(i + 1)
		order[i], order[j] = order[j], i
	}
	place := func(c api.Cell) int {
		p := order[0]
		order = order[1:]
		h.C[p] = c
		return p
	}
	var row []api.Item
	for len(keys) > 0 {
		m := min(1+pick(4), len(keys))
		row = append(row, api.Item{K: keys[0], V: place(leaf(1+pick(3), keys[:m]...))})
		keys = keys[m:]
	}
	for more := pick(2); len(row) > 1 || more > 0; {
		var up []api.Item
		if len(row) == 1 {
			more--
		}
		for len(row) > 0 {
			m := min(2+pick(3), len(row))
			up = append(up, api.Item{K: row[0].K, V: place(api.Cell{Ref: 1 + pick(3), N: api.Node{It: slices.Clone(row[:m])}})})
			row = row[m:]
		}
		row = up
	}
	for range n / 4 {
		switch pick(4) {
		case 0:
			place(api.Cell{Pin: true})
		case 1:
			place(leaf(1+pick(2), pick(9)))
		case 2:
			place(over(1, pick(9), pick(n), 10+pick(9), pick(n)))
		}
	}
	return h, row[0].V
}

// P9.1: trees in heaps that are right, but where Refs tell nothing, and other nodes tell anything: each call answers just what the words say.
func TestUnsound(t *testing.T) {
	done := map[api.Errno]int{}
	for seed := range 2000 {
		pick := picker(seed)
		many := 1 + pick(60)
		var keys []int
		for k := pick(3); len(keys) < many; k += 1 + pick(5) {
			keys = append(keys, k)
		}
		h, root := laid(pick, 2*many+20+pick(30), keys)
		was := whole(h, root)
		for range 6 {
			x, isDeep := api.Item{K: pick(keys[len(keys)-1] + 4), V: pick(500)}, pick(2) == 0
			want, top, f := put(h, root, x.K, x.V, isDeep)
			got, p, e := Put(h, root, x.K, x.V, isDeep)
			if e != f || p != top || !same(got, want) {
				t.Fatalf("%d: Put(%d, %d, %v): %d, %d: %v, not %d, %d: %v", seed, x.K, x.V, isDeep, p, e, got, top, f, want)
			}
			done[e]++
			// Where a Ref tells less than there is, what the new tree needs may be loosed with the old one. Else it is as ever.
			if e == api.OK && tree.Right(got, p) && !slices.Equal(whole(got, p), replaced(was, x)) {
				t.Fatalf("%d: Put(%d, %d) of %v: %v", seed, x.K, x.V, was, whole(got, p))
			}
		}
	}
	if done[api.OK] < 5000 {
		t.Errorf("%v", done)
	}
}

// P9.2: Over lays a node that is no leaf; what its items tell is held, and gets no Ref.
func TestOver(t *testing.T) {
	h, _ := some()
	for i, l := range [][]api.Item{
		{{K: 10, V: 7}}, {{K: 10, V: 0}, {K: 20, V: 1}}, {{K: 10, V: 0}, {K: 20, V: 1}, {K: 30, V: 2}, {K: 40, V: 4}}, {{K: 50, V: 6}}, {{K: 0, V: 0}, {K: most, V: 0}},
		// Just as they are told: nobody asks whether that is a tree.
		{{K: 3, V: 5}, {K: 4, V: 0}, {K: 5, V: 3}},
	} {
		want := deep(h)
		want.C[11] = api.Cell{Ref: 1, N: api.Node{It: l}}
		if got, p, e := Over(h, l); e != api.OK || p != 11 || !same(got, want) {
			t.Errorf("%d: %d, %d: %v", i, p, e, got)
		}
	}
	// None is kept from it.
	last := of(leaf(1, 1), api.Cell{})
	last.Keep = 2
	if got, p, e := Over(last, []api.Item{{K: 1, V: 0}}); e != api.OK || p != 1 || got.C[0].Ref != 1 || got.C[1].Ref != 1 {
		t.Errorf("the last cell: %d, %d: %v", p, e, got)
	}
}

// P9.2: Over's errors: ErrArg, and the heap and 0, if it is no right node, or what it tells no cell with a Ref; else ErrFull, if no cell is free.
func TestOverNone(t *testing.T) {
	h, _ := some()
	full := heap.Settle(h)
	for p := 10; p < len(full.C); p++ {
		full.C[p].Pin = true
	}
	five := []api.Item{{K: 1, V: 0}, {K: 2, V: 1}, {K: 3, V: 2}, {K: 4, V: 3}, {K: 5, V: 4}}
	l := [][]api.Item{nil, {}, five, {{K: 2, V: 0}, {K: 1, V: 1}}, {{K: 2, V: 0}, {K: 2, V: 1}}, {{K: 1, V: 10}}, {{K: 1, V: 11}}, {{K: 1, V: 0}, {K: 2, V: 30}}, {{K: 1, V: 31}}}
	for _, n := range append([]int{-1}, far...) {
		l = append(l, []api.Item{{K: n, V: 0}}, []api.Item{{K: 1, V: n}}, []api.Item{{K: 1, V: 0}, {K: 2, V: n}})
	}
	for i, x := range l {
		for _, y := range []api.Heap{h, full} {
			if got, p, e := Over(y, x); e != api.ErrArg || p != 0 || !same(got, y) {
				t.Errorf("%d: %d, %d", i, p, e)
			}
		}
	}
	for _, n := range []int{1, 2, 4} {
		if got, p, e := Over(full, five[:n]); e != api.ErrFull || p != 0 || !same(got, full) {
			t.Errorf("%d items, no cell free: %d, %d", n, p, e)
		}
	}
}

// fill is Fill, worked out apart from it.
func fill(h api.Heap, root int, l []api.Item) (api.Heap, int, api.Errno) {
	e := api.OK
	for i := 0; i < len(l) && e == api.OK; i++ {
		h, root, e = put(h, root, l[i].K, l[i].V, false)
	}
	return h, root, e
}

// P9.2: Fill puts items one by one, in the order in which they stand; of one key the last one counts.
func TestFill(t *testing.T) {
	h, root, e := Fill(made(t, 60, 0), -1, []api.Item{{K: 9, V: 1}, {K: 2, V: 2}, {K: 9, V: 3}, {K: 5, V: 4}, {K: 0, V: 5}, {K: most, V: most}, {K: 9, V: 6}})
	if e != api.OK || !slices.Equal(whole(h, root), []api.Item{{K: 0, V: 5}, {K: 2, V: 2}, {K: 5, V: 4}, {K: 9, V: 6}, {K: most, V: most}}) {
		t.Errorf("%d: %v", e, whole(h, root))
	}
	// Nothing is made free on the way.
	if want, top, _ := fill(made(t, 60, 0), -1, []api.Item{{K: 9, V: 1}, {K: 2, V: 2}, {K: 9, V: 3}}); top != 2 || !want.C[0].Pin || !want.C[1].Pin {
		t.Fatal("worked out apart")
	} else if h, root, e := Fill(made(t, 60, 0), -1, []api.Item{{K: 9, V: 1}, {K: 2, V: 2}, {K: 9, V: 3}}); e != api.OK || root != 2 || !same(h, want) {
		t.Errorf("%d, %d: %v", root, e, h)
	}
	done := map[api.Errno]int{}
	for seed := range 1500 {
		pick := picker(seed)
		size := 1 + pick(60)
		h, root := made(t, size, pick(size)/3), -1
		for range 3 {
			l := make([]api.Item, pick(9))
			for i := range l {
				l[i] = api.Item{K: pick(30), V: pick(99)}
				if pick(20) == 0 {
					l[i].K = far[pick(len(far))]
				}
			}
			was := deep(h)
			want, top, f := fill(h, root, l)
			got, p, e := Fill(h, root, l)
			if e != f || p != top || !same(got, want) || !same(h, was) {
				t.Fatalf("%d: %v: %d, %d: %v, not %d, %d: %v", seed, l, p, e, got, top, f, want)
			}
			done[e]++
			h, root = heap.Settle(got), p
			if !tree.Right(h, root) || !audit.Sound(h, []int{root}, nil) {
				t.Fatalf("%d: not sound", seed)
			}
		}
	}
	if done[api.OK] < 500 || done[api.ErrFull] < 500 || done[api.ErrArg] < 100 {
		t.Errorf("%v", done)
	}
}

// P9.2: of no items: the heap, the root, and OK, whatever room there is.
func TestFillNone(t *testing.T) {
	h, _ := some()
	for _, x := range []api.Heap{h, of(leaf(1, 1)), with(chain(20, 1), 0)} {
		for _, root := range []int{-1, 0, len(x.C) - 1} {
			for _, l := range [][]api.Item{nil, {}} {
				if got, p, e := Fill(x, root, l); e != api.OK || p != root || !same(got, x) {
					t.Errorf("%d: %d, %d", root, p, e)
				}
			}
		}
	}
}

// P9.2: where one can't be put, the heap and the root so far, and its error; none is put behind it.
func TestFillStops(t *testing.T) {
	for at := range 6 {
		for _, bad := range []api.Item{{K: -1}, {V: -1}, {K: most + 1}, {K: 3, V: most + 1}} {
			l := items(5, 1, 9, 3, 7, 4)
			l[at] = bad
			want, top, _ := fill(made(t, 60, 0), -1, l[:at])
			if got, p, e := Fill(made(t, 60, 0), -1, l); e != api.ErrArg || p != top || !same(got, want) {
				t.Errorf("%d: %d, %d: %v", at, p, e, got)
			}
		}
	}
	// Not deep: what is kept is kept. The first error counts, not a later one.
	for keep := range 7 {
		h := made(t, 6, keep)
		l := append(items(1, 2, 3, 4, 5), api.Item{K: -1})
		// The first one needs a free cell; each behind it takes one, and needs three.
		many := []int{4, 3, 2, 1, 1, 1, 0}[keep]
		got, p, e := Fill(h, -1, l)
		want, top, f := fill(h, -1, l)
		if e != f || e != api.ErrFull || p != top || !same(got, want) || len(whole(got, p)) != many {
			t.Errorf("%d kept: %d, %d: %v, not %d items", keep, p, e, whole(got, p), many)
		}
	}
	// The first one of all.
	full := of(leaf(1, 1), api.Cell{Pin: true})
	if got, p, e := Fill(full, 0, items(1, 2)); e != api.ErrFull || p != 0 || !same(got, full) {
		t.Errorf("%d, %d", p, e)
	}
	tall := with(chain(20, 1), 100)
	if got, p, e := Fill(tall, 19, items(1, 2)); e != api.ErrFull || p != 19 || !same(got, tall) {
		t.Errorf("%d, %d", p, e)
	}
}

// P9.2, P9.3: Fill of a tree that another one shares leaves that one as it was.
func TestFillShared(t *testing.T) {
	h, _ := some()
	was := whole(h, 9)
	got, p, e := Fill(h, 7, items(12, 1, 60))
	if e != api.OK || !slices.Equal(whole(got, 9), was) || !audit.Sound(got, []int{p, 9}, nil) || len(whole(got, p)) != len(whole(h, 7))+3 {
		t.Errorf("%d: %v, %v", e, whole(got, 9), whole(got, p))
	}
	// Where something refers to the first root, too, it stays.
	h, _ = heap.Hold(h, 7)
	if got, p, e = Fill(h, 7, items(12, 1, 60)); e != api.OK || !slices.Equal(whole(got, 7), whole(h, 7)) || !audit.Sound(got, []int{p, 7, 9}, nil) {
		t.Errorf("%d: %v", e, whole(got, 7))
	}
}

// P9.1 to P9.3: a heap that is filled until it is full, by keys in order, from behind, and drawn; the greatest one, too.
func TestFilled(t *testing.T) {
	for i, x := range []struct {
		size int
		key  func(n int) int
	}{
		{400, func(n int) int { return n }},
		{400, func(n int) int { return most - n }},
		{2000, func(n int) int { return n * 7919 % 10007 }},
	} {
		h, root, e := made(t, x.size, 0), -1, api.OK
		n := 0
		for ; e == api.OK && n <= 4*x.size; n++ {
			h, root, e = Put(heap.Settle(h), root, x.key(n), n, false)
		}
		n--
		if e != api.ErrFull || n < x.size*3/4 || !tree.Right(h, root) || !audit.Sound(h, []int{root}, nil) || len(whole(h, root)) != n || free(h) >= 2*tree.High(h, root)+1 {
			t.Errorf("%d: %d, %d items, not %d, %d free, %d high", i, e, len(whole(h, root)), n, free(h), tree.High(h, root))
		}
		for k := range n {
			if v, e := tree.Get(h, root, x.key(k)); v != k || e != api.OK {
				t.Fatalf("%d: Get(%d): %d, %d", i, x.key(k), v, e)
			}
		}
	}
}

// The chapter's example: 1 to 5, put one by one: two leaves, 1 to 3 and 4, 5, and a node over them.
func TestExample(t *testing.T) {
	h, root, e := Fill(made(t, 20, 0), -1, items(1, 2, 3, 4, 5))
	// Four leaves were made ahead: cells 0 to 3.
	want := made(t, 20, 0)
	for p := range 4 {
		want.C[p] = api.Cell{Pin: true}
	}
	want.C[4], want.C[5], want.C[6] = leaf(1, 1, 2, 3), leaf(1, 4, 5), over(1, 1, 4, 4, 5)
	if e != api.OK || root != 6 || !same(h, want) {
		t.Errorf("%d, %d: %v", root, e, h)
	}
}

// R1: no call panics, and all end, at heaps and roots that may not be, too.
func TestEnds(t *testing.T) {
	ring := api.Heap{C: make([]api.Cell, 1900)}
	for p := range ring.C {
		ring.C[p] = over(1, 1, (p+1)%1900, 2, p, 3, (p+7)%1900)
	}
	// From the first items on it is a tree, by others it is none.
	odd := of(leaf(1, 1), over(1, 1, 0, 5, 1, 9, 2, 12, 4), over(1, 1, 0, 5, 9), over(1, 1, 1, 5, 0, 7, 3, 9, 8), api.Cell{}, api.Cell{Ref: 1}, api.Cell{Ref: 1, N: api.Node{Leaf: true}},
		over(1, 1, 0, 5, 5), over(1, 5, 6, 9, 7, 12, -1), over(1, 1, 0, 1, 0, 5, 0, 7, 0, 9, 1), over(1, 9, 0, 1, 1), over(-1, 1, 0), over(math.MaxInt, 1, 0, 5, math.MaxInt, 9, math.MinInt), over(1, 1, 0, 5, 1999))
	kept := func(h api.Heap, n int) api.Heap { h.Keep = n; return h }
	some, _ := some()
	for _, h := range []api.Heap{
		{}, of(), of(api.Cell{Ref: -1}), with(ring, 100), with(odd, 50), with(chain(300, 1), 50), kept(with(odd, 50), -1000), kept(odd, math.MinInt), kept(of(leaf(1, 1)), -9), kept(with(odd, 50), 4000),
		kept(of(leaf(1, 1, 2, 3, 4), over(1, 1, 0), over(1, 1, 0)), -99), with(some, 3000), kept(of(leaf(1, 1, 2, 3, 4), api.Cell{}, api.Cell{}), -99), with(of(leaf(1, 1, 2, 3, 4, 5, 6, 7, 8), over(1, 1, 0)), 50),
	} {
		was := deep(h)
		for root := range min(len(h.C)+1, 40) {
			for _, k := range append([]int{-1, 0, 1, 3, 5, 7, 9, 12, most}, far...) {
				for _, r := range append([]int{root, -1, len(h.C) - 1}, far...) {
					if got, p, e := Put(h, r, k, 0, true); e != api.OK && (p != r || !same(got, h)) {
						t.Fatalf("Put(%d, %d): %d, %d", r, k, p, e)
					}
				}
				Over(h, []api.Item{{K: k, V: root}, {K: 3, V: k}})
			}
			Fill(h, root, items(5, 1, 9, 3, 7, 12, 2))
		}
		if !same(h, was) {
			t.Fatal("what was handed in is changed")
		}
	}
	// Nothing is half done there, either: in a ring, at what is no cell, or where there is less room than Keep tells.
	for i, x := range []struct {
		h       api.Heap
		root, k int
	}{{with(odd, 50), 7, 5}, {with(odd, 50), 8, 9}, {with(odd, 50), 3, 9}, {with(odd, 50), 13, 5}, {kept(of(leaf(1, 1, 2, 3, 4), api.Cell{}, api.Cell{}), -99), 0, 5}, {with(some, 9), -2, 5}, {with(some, 9), 31, 5}} {
		if got, p, e := Put(x.h, x.root, x.k, 1, false); e == api.OK || p != x.root || !same(got, x.h) {
			t.Errorf("%d: %d, %d", i, p, e)
		}
	}
}

// R3: what is handed in isn't written into, not even behind its end, and isn't kept.
func TestHandedIn(t *testing.T) {
	h, _ := some()
	h.Keep = 1
	whole := append(deep(h).C, leaf(5, 5), api.Cell{Pin: true}, api.Cell{})
	for p := range whole {
		// Room behind each node's items, too.
		it := append(whole[p].N.It, items(-7, -8, -9, -10, -11)...)
		whole[p].N.It = it[:len(whole[p].N.It)]
	}
	part := api.Heap{C: whole[:len(h.C)], Keep: 1}
	behind := func() []api.Item {
		var l []api.Item
		for _, c := range whole {
			l = append(l, c.N.It[:len(c.N.It)+5]...)
		}
		return l
	}
	was, wasBehind := deep(of(whole...)), behind()
	l := append(items(24, 44, 1, 60, 10), items(-7, -8)...)
	lo := []api.Item{{K: 1, V: 7}, {K: 60, V: 9}, {K: -7, V: -7}}
	var all []api.Heap
	for _, root := range []int{-1, 0, 5, 7, 9} {
		for _, k := range []int{0, 10, 22, 24, 30, 39, 44, 50, 51, most} {
			x, _, _ := Put(part, root, k, 3, false)
			all = append(all, x)
		}
		x, _, e := Fill(part, root, l[:5])
		y, _, f := Over(part, lo[:2])
		if all = append(all, x, y); f != api.OK || e != api.OK && root < 7 {
			t.Fatalf("%d: %d, %d", root, e, f)
		}
	}
	if !same(of(whole...), was) || !slices.Equal(behind(), wasBehind) || !slices.Equal(l, append(items(24, 44, 1, 60, 10), items(-7, -8)...)) || lo[2] != (api.Item{K: -7, V: -7}) {
		t.Fatal("what was handed in is changed")
	}
	var copies []api.Heap
	for _, x := range all {
		copies = append(copies, deep(x))
	}
	for i := range l {
		l[i] = api.Item{K: -5, V: -5}
	}
	lo[0], lo[1] = api.Item{}, api.Item{}
	// What came out stays as it was, whatever is done with it and with what was handed in.
	for i, x := range all {
		for _, root := range []int{7, 9} {
			if x.C[root].Ref > 0 {
				Put(x, root, 24, 9, true)
				Put(part, root, 24, 9, true)
				heap.Loose(x, root)
			}
		}
		if !same(x, copies[i]) {
			t.Fatalf("%d: changed", i)
		}
	}
	for i := range all {
		for p := range all[i].C {
			all[i].C[p] = leaf(-7, -7)
		}
		if i+1 < len(all) && !same(all[i+1], copies[i+1]) || !same(of(whole...), was) {
			t.Fatalf("%d: one answer changes what was handed in, or another one", i)
		}
	}
}

// R4: the same arguments, the same answers.
func TestSameAnswers(t *testing.T) {
	h, _ := some()
	a, p, e := Fill(h, 7, items(24, 44, 1))
	for range 3 {
		Fill(made(t, 9, 0), -1, items(5, 6, 7))
		Put(h, 9, 3, 3, true)
		b, q, f := Fill(deep(h), 7, items(24, 44, 1))
		if p != q || e != f || !same(a, b) {
			t.Fatal("another answer")
		}
	}
}
