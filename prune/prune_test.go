package prune

import (
	"math"
	"slices"
	"testing"

	"assart/api"
	"assart/audit"
	"assart/grow"
	"assart/heap"
	"assart/tree"
)

const most = api.Most

// far are numbers that are neither keys nor values, nor places of the heaps here, nor -1.
var far = []int{math.MinInt, math.MinInt + 1, -1 << 32, -1<<32 + 1, -1 << 31, -2001, -2, 1 << 31, 1<<31 + 1, 1<<32 - 1, 1 << 32, 1<<32 + 1, math.MaxInt - 1, math.MaxInt}

// pin is a cell that waits for a commit.
var pin = api.Cell{Pin: true}

// item is a leaf's item of a key.
func item(k int) api.Item { return api.Item{K: k, V: (10*k + 1) % most} }

func items(k ...int) []api.Item {
	var l []api.Item
	for _, x := range k {
		l = append(l, item(x))
	}
	return l
}

// leaf is a cell with a leaf of these keys.
func leaf(ref int, k ...int) api.Cell {
	return api.Cell{Ref: ref, N: api.Node{Leaf: true, It: items(k...)}}
}

// over is a cell with a node that is no leaf, of these keys and places in turn.
func over(ref int, kp ...int) api.Cell {
	c := api.Cell{Ref: ref}
	for i := 0; i+1 < len(kp); i += 2 {
		c.N.It = append(c.N.It, api.Item{K: kp[i], V: kp[i+1]})
	}
	return c
}

func of(c ...api.Cell) api.Heap { return api.Heap{C: c} }

// with is a heap with so many free cells more behind the others.
func with(h api.Heap, n int) api.Heap {
	h.C = append(slices.Clone(h.C), make([]api.Cell, n)...)
	return h
}

// changed is a heap's copy with other cells at some places.
func changed(h api.Heap, cells map[int]api.Cell) api.Heap {
	h = deep(h)
	for p, c := range cells {
		h.C[p] = c
	}
	return h
}

// deep is a heap's copy, in memory of its own.
func deep(h api.Heap) api.Heap {
	h.C = slices.Clone(h.C)
	for i := range h.C {
		h.C[i].N.It = slices.Clone(h.C[i].N.It)
	}
	return h
}

// same: are two heaps the same?
func same(a, b api.Heap) bool {
	return a.Keep == b.Keep && slices.EqualFunc(a.C, b.C, func(x, y api.Cell) bool {
		return x.Ref == y.Ref && x.Pin == y.Pin && x.N.Leaf == y.N.Leaf && slices.Equal(x.N.It, y.N.It)
	})
}

// free is how many cells are free.
func free(h api.Heap) int {
	n := 0
	for _, c := range h.C {
		if c.Ref == 0 && !c.Pin {
			n++
		}
	}
	return n
}

// picker is a row of numbers that look as if they were drawn; the same for the same seed.
func picker(seed int) func(n int) int {
	x := uint64(seed)*2654435761 + 12345
	return func(n int) int {
		x = x*6364136223846793005 + 1442695040888963407
		return int(x>>33) % n
	}
}

// whole is all a tree's items, its leaves' ones in a row.
func whole(h api.Heap, root int) []api.Item {
	if root == -1 {
		return nil
	}
	n := h.C[root].N
	if n.Leaf {
		return slices.Clone(n.It)
	}
	var l []api.Item
	for _, x := range n.It {
		l = append(l, whole(h, x.V)...)
	}
	return l
}

// height is how many nodes there are from a root to a leaf.
func height(h api.Heap, root int) int {
	if root == -1 {
		return 0
	}
	if n := h.C[root].N; !n.Leaf {
		return 1 + height(h, n.It[0].V)
	}
	return 1
}

// lay lays a node in the first free cell of a heap that is the caller's own, by the words alone.
func lay(h api.Heap, leaf bool, l []api.Item, held []int) int {
	for p, c := range h.C {
		if c.Ref != 0 || c.Pin {
			continue
		}
		for _, x := range l {
			if !leaf && !slices.Contains(held, x.V) {
				h.C[x.V].Ref++
			}
		}
		h.C[p] = api.Cell{Ref: 1, N: api.Node{Leaf: leaf, It: slices.Clone(l)}}
		return p
	}
	panic("no cell is free")
}

// loose is a Ref less, in a heap that is the caller's own, by the words alone.
func loose(h api.Heap, p int) {
	c := h.C[p]
	if h.C[p].Ref--; c.Ref > 1 {
		return
	}
	h.C[p] = pin
	for _, x := range c.N.It {
		if !c.N.Leaf && h.C[x.V].Ref > 0 {
			loose(h, x.V)
		}
	}
}

// anew makes a node anew without a key, in a heap that is the caller's own, by the words alone: nothing, or an item.
func anew(h api.Heap, p, key int) []api.Item {
	n := h.C[p].N
	leads := 0
	for i, y := range n.It {
		if y.K <= key {
			leads = i
		}
	}
	var l []api.Item
	var held []int
	for i, y := range n.It {
		switch {
		case n.Leaf && y.K == key:
		case n.Leaf || i != leads:
			l = append(l, y)
		default:
			for _, z := range anew(h, y.V, key) {
				l, held = append(l, z), append(held, z.V)
			}
		}
	}
	if len(l) == 0 {
		return nil
	}
	return []api.Item{{K: l[0].K, V: lay(h, n.Leaf, l, held)}}
}

// low is Low, in a heap that is the caller's own, by the words alone.
func low(h api.Heap, root int) int {
	for root != -1 && !h.C[root].N.Leaf && len(h.C[root].N.It) == 1 {
		below := h.C[root].N.It[0].V
		h.C[below].Ref++
		loose(h, root)
		root = below
	}
	return root
}

// del is Del, worked out apart from it.
func del(h api.Heap, root, key int) (api.Heap, int, api.Errno) {
	if !slices.ContainsFunc(whole(h, root), func(x api.Item) bool { return x.K == key }) {
		return h, root, api.ErrNone
	}
	if free(h) < height(h, root) {
		return h, root, api.ErrFull
	}
	h = deep(h)
	top := -1
	for _, x := range anew(h, root, key) {
		top = low(h, x.V)
	}
	loose(h, root)
	return h, top, api.OK
}

// cut is Cut, worked out apart from it: the first item is looked for anew each time.
func cut(h api.Heap, root, lo, hi, many int) (api.Heap, int, int, api.Errno) {
	gone := 0
	for gone < many {
		l := whole(h, root)
		i := slices.IndexFunc(l, func(x api.Item) bool { return x.K >= lo && x.K < hi })
		if i < 0 {
			break
		}
		var e api.Errno
		if h, root, e = del(h, root, l[i].K); e != api.OK {
			return h, root, gone, e
		}
		gone++
	}
	return h, root, gone, api.OK
}

// speaks: does the chapter speak of these arguments?
func speaks(t *testing.T, h api.Heap, root int) {
	t.Helper()
	if !heap.Right(h) || !tree.Right(h, root) {
		t.Fatalf("the chapter doesn't speak of %v, root %d", h, root)
	}
}

// holds holds Del against what was worked out apart, and that what was handed in stays as it was; what comes out is told.
func holds(t *testing.T, h api.Heap, root, key int) (api.Heap, int, api.Errno) {
	t.Helper()
	speaks(t, h, root)
	was := deep(h)
	want, top, f := del(h, root, key)
	got, p, e := Del(h, root, key)
	if !same(h, was) {
		t.Fatalf("Del(%d, %d): what was handed in is changed", root, key)
	}
	if e != f || p != top || !same(got, want) {
		t.Fatalf("Del(%d, %d) of %v: root %d, %d, %v; not root %d, %d, %v", root, key, h, p, e, got, top, f, want)
	}
	if !heap.Right(got) || !tree.Right(got, p) || tree.High(got, p) > tree.High(h, root) || free(h)-free(got) > tree.High(h, root) {
		t.Fatalf("Del(%d, %d) of %v: %v, root %d: not right, or too high, or too many cells", root, key, h, got, p)
	}
	return got, p, e
}

// holdsCut is holds, of Cut.
func holdsCut(t *testing.T, h api.Heap, root, lo, hi, many int) (api.Heap, int, int, api.Errno) {
	t.Helper()
	speaks(t, h, root)
	was := deep(h)
	want, top, gone, f := cut(h, root, lo, hi, many)
	got, p, n, e := Cut(h, root, lo, hi, many)
	if !same(h, was) {
		t.Fatalf("Cut(%d, %d, %d, %d): what was handed in is changed", root, lo, hi, many)
	}
	if e != f || p != top || n != gone || !same(got, want) {
		t.Fatalf("Cut(%d, %d, %d, %d) of %v: root %d, %d gone, %d, %v; not root %d, %d gone, %d, %v", root, lo, hi, many, h, p, n, e, got, top, gone, f, want)
	}
	if !heap.Right(got) || !tree.Right(got, p) || tree.High(got, p) > tree.High(h, root) {
		t.Fatalf("Cut(%d, %d, %d, %d) of %v: %v, root %d: not right, or too high", root, lo, hi, many, h, got, p)
	}
	return got, p, n, e
}

// holdsLow is holds, of Low.
func holdsLow(t *testing.T, h api.Heap, root int) (api.Heap, int) {
	t.Helper()
	speaks(t, h, root)
	was := deep(h)
	want := deep(h)
	top := low(want, root)
	got, p := Low(h, root)
	if !same(h, was) {
		t.Fatalf("Low(%d): what was handed in is changed", root)
	}
	if p != top || !same(got, want) || !heap.Right(got) || !tree.Right(got, p) {
		t.Fatalf("Low(%d) of %v: root %d, %v; not root %d, %v", root, h, p, got, top, want)
	}
	return got, p
}

// less is items without those that stand in another row.
func less(l []api.Item, gone ...api.Item) []api.Item {
	return slices.DeleteFunc(slices.Clone(l), func(x api.Item) bool { return slices.Contains(gone, x) })
}

// chain is a tree of so many nodes below one another, the last one a leaf of these keys; its root is its last cell.
func chain(high int, k ...int) api.Heap {
	h := of(leaf(1, k...))
	for p := range high - 1 {
		h.C = append(h.C, over(1, k[0], p))
	}
	return h
}

// fork is a tree so high of which each node on the way to the key 1000 has an item more ahead of that way, and its leaf the key 1010; and its root.
func fork(high int) (api.Heap, int) {
	h, root := of(leaf(1, 1000, 1010)), 0
	for up := 1; up < high; up++ {
		k := 10 * (high - up)
		h.C = append(h.C, leaf(1, k))
		for range up - 1 {
			h.C = append(h.C, over(1, k, len(h.C)-1))
		}
		h.C = append(h.C, over(1, k, len(h.C)-1, h.C[root].N.It[0].K, root))
		root = len(h.C) - 1
	}
	return h, root
}

// some is a sound heap of two trees, with the roots 7 and 9, that share nodes, and of free cells behind.
func some() (api.Heap, []int) {
	return with(of(
		leaf(2, 10, 11),                     // 0
		leaf(1, 20, 21, 22, 23),             // 1
		leaf(2, 30),                         // 2
		over(1, 10, 0, 20, 1, 30, 2, 40, 4), // 3
		leaf(1, 40, 41, 42, 43),             // 4
		leaf(1, 50),                         // 5
		over(2, 50, 5),                      // 6
		over(1, 10, 3, 50, 6),               // 7
		over(1, 10, 0, 30, 2),               // 8
		over(1, 10, 8, 50, 6),               // 9
		pin,                                 // 10
	), 20), []int{7, 9}
}

// P10.1: no tree, a leaf, and a root of several items stay as they are.
func TestLowStays(t *testing.T) {
	h, roots := some()
	for _, x := range []struct {
		h    api.Heap
		root int
	}{{h, -1}, {h, 0}, {h, 1}, {h, 2}, {h, 5}, {h, 3}, {h, 7}, {h, 8}, {h, 9}, {of(leaf(1, 1)), 0}, {of(leaf(3, 0)), 0}, {of(pin), -1}, {of(pin, leaf(1, 1), leaf(1, 3), over(1, 1, 1, 3, 2)), 3}} {
		if got, p := Low(x.h, x.root); p != x.root || !same(got, x.h) {
			t.Errorf("Low(%d): %d: %v", x.root, p, got)
		}
		holdsLow(t, x.h, x.root)
	}
	if !audit.Sound(h, roots, nil) {
		t.Fatal("some: not sound")
	}
}

// P10.1: a root of one item is loosed, and what it tells is held, and the root; again and again, down to a leaf, or to several items.
func TestLow(t *testing.T) {
	for i, x := range []struct {
		h     api.Heap
		root  int
		cells map[int]api.Cell // of those whose cells are other ones than they were
		top   int
	}{
		{of(leaf(1, 1), over(1, 1, 0)), 1, map[int]api.Cell{1: pin}, 0},
		{of(over(1, 5, 1), leaf(1, 5, 6, 7)), 0, map[int]api.Cell{0: pin}, 1},
		{chain(4, 3), 3, map[int]api.Cell{1: pin, 2: pin, 3: pin}, 0},
		{chain(4, 3, 4), 2, map[int]api.Cell{1: pin, 2: pin}, 0},
		// What something else refers to, too, stays, and the root of all that is below has a Ref more; what is between it and that has what it had.
		{of(leaf(1, 1), over(2, 1, 0)), 1, map[int]api.Cell{1: over(1, 1, 0), 0: leaf(2, 1)}, 0},
		{of(leaf(1, 1), over(1, 1, 0), over(3, 1, 1)), 2, map[int]api.Cell{2: over(2, 1, 1), 0: leaf(2, 1)}, 0},
		{of(leaf(1, 1), over(2, 1, 0), over(1, 1, 1)), 2, map[int]api.Cell{2: pin, 1: over(1, 1, 0), 0: leaf(2, 1)}, 0},
		{of(leaf(2, 1), over(1, 1, 0), over(1, 1, 1)), 2, map[int]api.Cell{1: pin, 2: pin}, 0},
		{of(leaf(4, 1), over(5, 1, 0), over(6, 1, 1)), 2, map[int]api.Cell{2: over(5, 1, 1), 0: leaf(5, 1)}, 0},
		// Of several items: those stay as they are.
		{of(leaf(1, 1), leaf(1, 5), over(1, 1, 0, 5, 1), over(1, 1, 2)), 3, map[int]api.Cell{3: pin}, 2},
		{of(leaf(1, 1), leaf(1, 5), over(1, 1, 0), over(1, 5, 1), over(1, 1, 2, 5, 3), over(1, 1, 4), over(1, 1, 5)), 6, map[int]api.Cell{5: pin, 6: pin}, 4},
		{of(leaf(1, 1), leaf(1, 5), over(1, 1, 0, 5, 1), over(2, 1, 2)), 3, map[int]api.Cell{3: over(1, 1, 2), 2: over(2, 1, 0, 5, 1)}, 2},
	} {
		// Neither what is free nor what is kept counts here.
		for _, h := range []api.Heap{x.h, with(x.h, 3), {C: x.h.C, Keep: len(x.h.C)}} {
			want := changed(h, x.cells)
			if got, p := Low(h, x.root); p != x.top || !same(got, want) {
				t.Errorf("%d: %d: %v, not %v", i, p, got, want)
			}
			holdsLow(t, h, x.root)
		}
	}
	h, _ := some()
	if got, p := Low(h, 6); p != 5 || !same(got, changed(h, map[int]api.Cell{6: over(1, 50, 5), 5: leaf(2, 50)})) {
		t.Errorf("some: %d: %v", p, got)
	}
}

// P10.1, P10.4: of the highest trees, too: one of each height, of which so many nodes have one item.
func TestLowHigh(t *testing.T) {
	for high := 1; high <= 20; high++ {
		for several := range high {
			h := of(leaf(1, 1, 2))
			if several > 0 {
				h, _ = fork(several + 1)
			}
			end := len(h.C) - 1
			for len(h.C)-end <= high-1-several {
				h.C = append(h.C, over(1, whole(h, end)[0].K, len(h.C)-1))
			}
			root := len(h.C) - 1
			got, p := holdsLow(t, h, root)
			if p != end || !slices.Equal(whole(got, p), whole(h, root)) || !audit.Sound(got, []int{p}, nil) || tree.High(h, root) != high || tree.High(got, p) != several+1 {
				t.Fatalf("%d high, %d of several items: root %d, not %d", high, several, p, end)
			}
		}
	}
}

// P10.2: a leaf's items without that one, in the first free cell; the old leaf waits.
func TestDelLeaf(t *testing.T) {
	for i, x := range []struct {
		k    []int
		key  int
		want []int
	}{
		{[]int{2, 4}, 2, []int{4}}, {[]int{2, 4}, 4, []int{2}},
		{[]int{2, 4, 6}, 2, []int{4, 6}}, {[]int{2, 4, 6}, 4, []int{2, 6}}, {[]int{2, 4, 6}, 6, []int{2, 4}},
		{[]int{2, 4, 6, 8}, 2, []int{4, 6, 8}}, {[]int{2, 4, 6, 8}, 4, []int{2, 6, 8}}, {[]int{2, 4, 6, 8}, 6, []int{2, 4, 8}}, {[]int{2, 4, 6, 8}, 8, []int{2, 4, 6}},
		{[]int{0, most}, 0, []int{most}}, {[]int{0, most}, most, []int{0}}, {[]int{0, 1, most - 1, most}, most - 1, []int{0, 1, most}},
	} {
		h := of(leaf(1, x.k...), pin, api.Cell{}, api.Cell{})
		want := of(pin, pin, leaf(1, x.want...), api.Cell{})
		if got, p, e := Del(h, 0, x.key); e != api.OK || p != 2 || !same(got, want) {
			t.Errorf("%d: %d, %d: %v", i, p, e, got)
		}
		holds(t, h, 0, x.key)
		// A leaf to which something else refers, too, stays.
		h.C[0].Ref = 3
		want.C[0] = leaf(2, x.k...)
		if got, p, e := Del(h, 0, x.key); e != api.OK || p != 2 || !same(got, want) {
			t.Errorf("%d, shared: %d, %d: %v", i, p, e, got)
		}
	}
}

// P10.2: where nothing is left, there is no tree any more: no cell is laid, and the old one waits.
func TestDelLast(t *testing.T) {
	for _, k := range []int{0, 1, 77, most} {
		for high := 1; high <= 20; high++ {
			h := with(chain(high, k), high)
			want := with(of(slices.Repeat([]api.Cell{pin}, high)...), high)
			if got, p, e := Del(h, high-1, k); e != api.OK || p != -1 || !same(got, want) {
				t.Errorf("%d high, %d: %d, %d: %v", high, k, p, e, got)
			}
			// A root to which something else refers, too, stays, with all that is below.
			h.C[high-1].Ref = 2
			if got, p, e := Del(h, high-1, k); e != api.OK || p != -1 || !same(got, with(chain(high, k), high)) {
				t.Errorf("%d high, %d, shared: %d, %d: %v", high, k, p, e, got)
			}
		}
	}
	// So does what is below one that goes.
	h := with(of(leaf(1, 1), over(2, 1, 0), over(1, 1, 1)), 3)
	if got, p, e := Del(h, 2, 1); e != api.OK || p != -1 || !same(got, changed(h, map[int]api.Cell{1: over(1, 1, 0), 2: pin})) {
		t.Errorf("shared below: %d, %d: %v", p, e, got)
	}
}

// P10.2: the way to a key is made anew from the leaf up, all else is held; worked out by hand.
func TestDelDeep(t *testing.T) {
	h, roots := some()
	for i, x := range []struct {
		root, key int
		cells     map[int]api.Cell // of those whose cells are other ones than they were
		top       int
	}{
		// The least key of all: those above are new, too. What isn't shared on the way waits.
		{7, 10, map[int]api.Cell{3: pin, 7: pin, 0: leaf(1, 10, 11), 11: leaf(1, 11), 12: over(1, 11, 11, 20, 1, 30, 2, 40, 4), 13: over(1, 11, 12, 50, 6)}, 13},
		// The second one of a leaf; its key above stays.
		{7, 11, map[int]api.Cell{3: pin, 7: pin, 0: leaf(1, 10, 11), 11: leaf(1, 10), 12: over(1, 10, 11, 20, 1, 30, 2, 40, 4), 13: over(1, 10, 12, 50, 6)}, 13},
		{7, 20, map[int]api.Cell{1: pin, 3: pin, 7: pin, 11: leaf(1, 21, 22, 23), 12: over(1, 10, 0, 21, 11, 30, 2, 40, 4), 13: over(1, 10, 12, 50, 6)}, 13},
		{7, 43, map[int]api.Cell{4: pin, 3: pin, 7: pin, 11: leaf(1, 40, 41, 42), 12: over(1, 10, 0, 20, 1, 30, 2, 40, 11), 13: over(1, 10, 12, 50, 6)}, 13},
		// A leaf that comes to nothing: the node over it has an item less.
		{7, 30, map[int]api.Cell{2: leaf(1, 30), 3: pin, 7: pin, 11: over(1, 10, 0, 20, 1, 40, 4), 12: over(1, 10, 11, 50, 6)}, 12},
		// A node that comes to nothing, too: the root would have one item, and is gone.
		{7, 50, map[int]api.Cell{6: over(1, 50, 5), 7: pin, 11: pin}, 3},
		{9, 50, map[int]api.Cell{6: over(1, 50, 5), 9: pin, 11: pin}, 8},
		// A node of which one item is left stays one below a root of several.
		{9, 30, map[int]api.Cell{2: leaf(1, 30), 8: pin, 9: pin, 11: over(1, 10, 0), 12: over(1, 10, 11, 50, 6)}, 12},
		{9, 10, map[int]api.Cell{0: leaf(1, 10, 11), 8: pin, 9: pin, 11: leaf(1, 11), 12: over(1, 11, 11, 30, 2), 13: over(1, 11, 12, 50, 6)}, 13},
		// Of what is below a root.
		{8, 30, map[int]api.Cell{2: leaf(1, 30), 8: pin, 11: pin}, 0},
		{3, 30, map[int]api.Cell{2: leaf(1, 30), 3: pin, 11: over(1, 10, 0, 20, 1, 40, 4)}, 11},
		{6, 50, map[int]api.Cell{6: over(1, 50, 5)}, -1},
	} {
		want := changed(h, x.cells)
		if got, p, e := Del(h, x.root, x.key); e != api.OK || p != x.top || !same(got, want) {
			t.Errorf("%d: %d, %d: %v, not %v", i, p, e, got, want)
		}
		holds(t, h, x.root, x.key)
	}
	if !audit.Sound(h, roots, nil) {
		t.Fatal("some: not sound")
	}
}

// P10.2: a root of one item is gone down from, through nodes of one item that were there ahead, too.
func TestDelLow(t *testing.T) {
	old := of(leaf(1, 1), leaf(1, 5), over(1, 1, 0), over(1, 5, 1), over(1, 1, 2), over(1, 5, 3), over(1, 1, 4, 5, 5))
	for i, x := range []struct {
		h         api.Heap
		root, key int
		cells     map[int]api.Cell // of those whose cells are other ones than they were
		top       int
	}{
		// One new node, the root, then two old ones, down to an old leaf.
		{old, 6, 1, map[int]api.Cell{0: pin, 2: pin, 3: pin, 4: pin, 5: pin, 6: pin, 7: pin}, 1},
		{old, 6, 5, map[int]api.Cell{1: pin, 2: pin, 3: pin, 4: pin, 5: pin, 6: pin, 7: pin}, 0},
		// Where another tree shares an old one on the way, that stays, and what is below it has a Ref more.
		{changed(old, map[int]api.Cell{5: over(2, 5, 3)}), 6, 1, map[int]api.Cell{0: pin, 2: pin, 4: pin, 6: pin, 7: pin, 5: over(1, 5, 3), 1: leaf(2, 5)}, 1},
		{changed(old, map[int]api.Cell{3: over(2, 5, 1)}), 6, 1, map[int]api.Cell{0: pin, 2: pin, 4: pin, 5: pin, 6: pin, 7: pin, 3: over(1, 5, 1), 1: leaf(2, 5)}, 1},
		{changed(old, map[int]api.Cell{1: leaf(2, 5)}), 6, 1, map[int]api.Cell{0: pin, 2: pin, 3: pin, 4: pin, 5: pin, 6: pin, 7: pin}, 1},
		{changed(old, map[int]api.Cell{6: over(2, 1, 4, 5, 5)}), 6, 1, map[int]api.Cell{6: over(1, 1, 4, 5, 5), 7: pin, 1: leaf(2, 5)}, 1},
		// A chain: all of the way is made anew, and all but the leaf is gone again.
		{chain(4, 1, 2), 3, 2, map[int]api.Cell{0: pin, 1: pin, 2: pin, 3: pin, 4: leaf(1, 1), 5: pin, 6: pin, 7: pin}, 4},
		{chain(4, 1, 2), 3, 1, map[int]api.Cell{0: pin, 1: pin, 2: pin, 3: pin, 4: leaf(1, 2), 5: pin, 6: pin, 7: pin}, 4},
		// A root of one item above one that goes on having several.
		{of(leaf(1, 1), leaf(1, 5, 6), over(1, 1, 0, 5, 1), over(1, 1, 2)), 3, 6, map[int]api.Cell{1: pin, 2: pin, 3: pin, 4: leaf(1, 5), 5: over(1, 1, 0, 5, 4), 6: pin}, 5},
		// And above one of which one item is left.
		{of(leaf(1, 1), leaf(1, 5, 6), over(1, 1, 0, 5, 1), over(1, 1, 2)), 3, 1, map[int]api.Cell{0: pin, 2: pin, 3: pin, 4: pin, 5: pin}, 1},
	} {
		h := with(x.h, 5)
		want := changed(h, x.cells)
		if got, p, e := Del(h, x.root, x.key); e != api.OK || p != x.top || !same(got, want) {
			t.Errorf("%d: %d, %d: %v, not %v", i, p, e, got, want)
		}
		holds(t, h, x.root, x.key)
	}
}

// P10.2: a root that something else refers to, too, stays, and all that its tree has.
func TestDelShared(t *testing.T) {
	h, roots := some()
	h.C[7].Ref = 2
	roots = append(roots, 7)
	want := changed(h, map[int]api.Cell{7: over(1, 10, 3, 50, 6), 0: leaf(3, 10, 11), 1: leaf(2, 20, 21, 22, 23), 2: leaf(3, 30), 6: over(3, 50, 5),
		11: leaf(1, 40, 41, 43), 12: over(1, 10, 0, 20, 1, 30, 2, 40, 11), 13: over(1, 10, 12, 50, 6)})
	got, p, e := Del(h, 7, 42)
	if e != api.OK || p != 13 || !same(got, want) || !audit.Sound(got, []int{7, 9, 13}, nil) || !audit.Sound(h, roots, nil) {
		t.Errorf("%d, %d: %v", p, e, got)
	}
	for j, x := range whole(h, 7) {
		got, p, e := holds(t, h, 7, x.K)
		if e != api.OK || !audit.Sound(got, []int{7, 9, p}, nil) || !slices.Equal(whole(got, 7), whole(h, 7)) || !slices.Equal(whole(got, 9), whole(h, 9)) || !slices.Equal(whole(got, p), less(whole(h, 7), x)) {
			t.Errorf("%d: %d: %v", j, e, got)
		}
	}
}

// P10.2: ErrNone, and the heap and the root, if the tree has no such item, whatever room there is.
func TestDelNone(t *testing.T) {
	h, _ := some()
	full := of(leaf(1, 3, 5), leaf(1, 20), over(1, 3, 0, 20, 1))
	for _, x := range []struct {
		h    api.Heap
		root int
		k    []int
	}{
		{h, 7, []int{-1, 0, 9, 12, 19, 24, 29, 31, 39, 44, 49, 51, most}}, {h, 9, []int{9, 12, 20, 23, 40, 49, 51}}, {h, 6, []int{10, 49, 51}},
		{h, -1, []int{-1, 0, 10, 50, most}}, {h, 2, []int{0, 29, 31, 50}}, {of(pin), -1, []int{-1, 0, 1, most}},
		// Ahead of ErrFull.
		{full, 2, []int{-1, 0, 2, 4, 6, 19, 21, most}}, {full, 0, []int{2, 4, 6, 20}}, {full, -1, []int{3, 5, 20}}, {chain(20, 3), 19, []int{2, 4}},
	} {
		for _, k := range append(x.k, far...) {
			if got, p, e := Del(x.h, x.root, k); e != api.ErrNone || p != x.root || !same(got, x.h) {
				t.Errorf("Del(%d, %d): %d, %d", x.root, k, p, e)
			}
			holds(t, x.h, x.root, k)
		}
	}
	// A value is no key.
	if got, p, e := Del(h, 0, item(10).V); e != api.ErrNone || p != 0 || !same(got, h) {
		t.Errorf("a value: %d, %d", p, e)
	}
}

// P10.2: ErrFull, and the heap and the root, if not as many cells are free as the tree is high, whatever is needed; those that are kept are free here.
func TestDelFull(t *testing.T) {
	for high := 1; high <= 20; high++ {
		forked, top := fork(high)
		for _, x := range []struct {
			h    api.Heap
			root int
			k    []int
		}{{chain(high, 3), high - 1, []int{3}}, {chain(high, 3, 4), high - 1, []int{3, 4}}, {forked, top, []int{1000, 1010, whole(forked, top)[0].K}}} {
			for n := max(high-3, 0); n <= high+2; n++ {
				h := with(of(append(slices.Clone(x.h.C), pin)...), n)
				for _, h.Keep = range []int{0, 1, n, n + 1, len(h.C)} {
					for _, k := range x.k {
						if got, p, e := Del(h, x.root, k); (e == api.OK) != (n >= high) || e != api.OK && (e != api.ErrFull || p != x.root || !same(got, h)) {
							t.Errorf("%d high, %d free, %d kept: %d, %d", high, n, h.Keep, p, e)
						}
						holds(t, h, x.root, k)
					}
				}
			}
		}
	}
}

// P10.2: what waits is no room.
func TestDelWaits(t *testing.T) {
	h := of(leaf(1, 1, 2), pin, leaf(1, 5), pin, over(1, 1, 0, 5, 2), api.Cell{})
	for _, k := range []int{1, 2, 5} {
		if got, p, e := Del(h, 4, k); e != api.ErrFull || p != 4 || !same(got, h) {
			t.Errorf("%d: %d, %d", k, p, e)
		}
	}
	want := of(pin, leaf(1, 2), leaf(1, 5), over(1, 2, 1, 5, 2), pin, api.Cell{})
	if got, p, e := Del(heap.Settle(h), 4, 1); e != api.OK || p != 3 || !same(got, want) {
		t.Errorf("%d, %d: %v", p, e, got)
	}
}

// P10.2, P10.4: where all nodes on the way have another item, just as many cells are used as the tree is high; one node less is laid for each one that comes to nothing.
func TestDelMost(t *testing.T) {
	for high := 2; high <= 20; high++ {
		h, root := fork(high)
		if !tree.Right(h, root) || tree.High(h, root) != high || !audit.Sound(h, []int{root}, nil) {
			t.Fatalf("%d high: not right", high)
		}
		h = with(h, 2*high)
		for _, k := range []int{1000, 1010} {
			got, p, e := holds(t, h, root, k)
			if e != api.OK || free(got) != high || tree.High(got, p) != high || !audit.Sound(got, []int{p}, nil) || !slices.Equal(whole(got, p), less(whole(h, root), item(k))) {
				t.Errorf("%d high: %d, %d free, %d high", high, e, free(got), tree.High(got, p))
			}
			h1, r1, e := holds(t, got, p, 2010-k)
			want := high
			if high == 2 {
				want = 1
			}
			if e != api.OK || free(h1) != 1 || tree.High(h1, r1) != want || !audit.Sound(h1, []int{r1}, nil) || !slices.Equal(whole(h1, r1), less(whole(h, root), item(1000), item(1010))) {
				t.Errorf("%d high: %d, %d free, %d high", high, e, free(h1), tree.High(h1, r1))
			}
		}
	}
}

// P10.3: the first ones of the range, one by one, as many as are asked for at most.
func TestCut(t *testing.T) {
	h, roots := some()
	h = with(h, 60)
	all := whole(h, 7)
	for i, x := range []struct {
		lo, hi, many int
		gone         []int
	}{
		{0, 99, 3, []int{10, 11, 20}}, {0, most, 1, []int{10}}, {11, 99, 2, []int{11, 20}}, {12, 99, 2, []int{20, 21}},
		{20, 24, 9, []int{20, 21, 22, 23}}, {20, 23, 9, []int{20, 21, 22}}, {20, 24, 4, []int{20, 21, 22, 23}}, {20, 24, 3, []int{20, 21, 22}}, {20, 24, 5, []int{20, 21, 22, 23}},
		{23, 41, 9, []int{23, 30, 40}}, {43, 99, 9, []int{43, 50}}, {50, 51, 1, []int{50}}, {50, 51, most, []int{50}}, {50, most, math.MaxInt, []int{50}},
		{10, 10, 5, nil}, {10, 11, 5, []int{10}}, {9, 10, 5, nil}, {9, 11, 5, []int{10}},
		{0, 99, len(all) - 1, []int{10, 11, 20, 21, 22, 23, 30, 40, 41, 42, 43}}, {0, 99, len(all), []int{10, 11, 20, 21, 22, 23, 30, 40, 41, 42, 43, 50}},
		{math.MinInt, math.MaxInt, math.MaxInt, []int{10, 11, 20, 21, 22, 23, 30, 40, 41, 42, 43, 50}}, {math.MinInt, 12, len(all) + 1, []int{10, 11}}, {-1, 99, len(all) + 1, []int{10, 11, 20, 21, 22, 23, 30, 40, 41, 42, 43, 50}},
	} {
		got, p, n, e := holdsCut(t, h, 7, x.lo, x.hi, x.many)
		if e != api.OK || n != len(x.gone) || !slices.Equal(whole(got, p), less(all, items(x.gone...)...)) || !slices.Equal(whole(got, 9), whole(h, 9)) || !audit.Sound(got, []int{p, 9}, nil) {
			t.Errorf("%d: %d gone, %d: %v", i, n, e, whole(got, p))
		}
		if (n == len(all)) != (p == -1) {
			t.Errorf("%d: the root %d", i, p)
		}
	}
	if !audit.Sound(h, roots, nil) {
		t.Fatal("some: not sound")
	}
}

// P10.3: each Del's way is made anew in its turn, and nothing is made free on the way.
func TestCutByOne(t *testing.T) {
	h := with(of(leaf(1, 1, 2, 3), leaf(1, 5), over(1, 1, 0, 5, 1)), 8)
	want := with(of(pin, leaf(1, 5), pin, pin, pin, leaf(1, 3), over(1, 3, 5, 5, 1)), 4)
	if got, p, n, e := Cut(h, 2, 1, 3, 9); e != api.OK || p != 6 || n != 2 || !same(got, want) {
		t.Errorf("%d, %d gone, %d: %v", p, n, e, got)
	}
	want = with(of(pin, leaf(1, 5), pin, pin, pin, pin, pin, pin), 3)
	if got, p, n, e := Cut(h, 2, 0, 5, 9); e != api.OK || p != 1 || n != 3 || !same(got, want) {
		t.Errorf("%d, %d gone, %d: %v", p, n, e, got)
	}
	want.C[1] = pin
	if got, p, n, e := Cut(h, 2, 0, 6, 9); e != api.OK || p != -1 || n != 4 || !same(got, want) {
		t.Errorf("%d, %d gone, %d: %v", p, n, e, got)
	}
}

// P10.3: of a range without an item, of one from behind its end, of no tree, and where none is asked for: the heap, the root, 0 and OK, whatever room there is.
func TestCutNone(t *testing.T) {
	h, _ := some()
	full := of(leaf(1, 10, 11), leaf(1, 50), over(1, 10, 0, 50, 1))
	empty := [][2]int{{0, 10}, {12, 20}, {24, 30}, {51, 99}, {51, most}, {51, math.MaxInt}, {math.MinInt, 10}, {-5, 0}, {10, 10}, {20, 20}, {50, 50}, {11, 10}, {51, 10}, {99, 0}, {most, 0}, {math.MaxInt, math.MinInt}, {50, math.MinInt}, {math.MaxInt, math.MaxInt}, {math.MaxInt, 50}}
	for _, x := range []struct {
		h    api.Heap
		root int
	}{{h, 7}, {h, 9}, {full, 2}, {full, 0}, {h, -1}, {full, -1}, {of(pin), -1}} {
		none := func(lo, hi, many int) {
			t.Helper()
			if got, p, n, e := Cut(x.h, x.root, lo, hi, many); e != api.OK || p != x.root || n != 0 || !same(got, x.h) {
				t.Errorf("Cut(%d, %d, %d, %d): %d, %d gone, %d", x.root, lo, hi, many, p, n, e)
			}
			holdsCut(t, x.h, x.root, lo, hi, many)
		}
		for _, r := range empty {
			for _, many := range []int{math.MinInt, -1, 0, 1, 4, most, math.MaxInt} {
				none(r[0], r[1], many)
			}
		}
		for _, many := range []int{0, -1, -2, -1 << 31, -1 << 32, math.MinInt + 1, math.MinInt} {
			none(0, 99, many)
			none(math.MinInt, math.MaxInt, many)
			none(10, 11, many)
		}
		if x.root == -1 {
			none(0, 99, 5)
			none(math.MinInt, math.MaxInt, math.MaxInt)
		}
	}
}

// P10.3: where one can't be taken out, the heap and the root so far, how many are gone, and its error; none is taken out behind it.
func TestCutStops(t *testing.T) {
	for n := range 12 {
		for keep := range n + 1 {
			// Each of the first three takes two cells and needs two, the fourth one, that of the first leaf, takes one.
			h := with(of(leaf(1, 1, 2, 3, 4), leaf(1, 5, 6), leaf(1, 7), over(1, 1, 0, 5, 1, 7, 2)), n)
			h.Keep = keep
			many := min(n/2, 3)
			if n >= 8 {
				many = 4
			}
			got, p, gone, e := holdsCut(t, h, 3, 0, 5, 9)
			if gone != many || (e == api.OK) != (n >= 8) || e != api.OK && e != api.ErrFull || len(whole(got, p)) != 7-many || !audit.Sound(got, []int{p}, nil) {
				t.Errorf("%d free, %d kept: %d gone, %d: %v", n, keep, gone, e, whole(got, p))
			}
			// What is asked for is gone ahead of what can't be.
			if _, _, gone, e := holdsCut(t, h, 3, 0, 5, many); gone != many || e != api.OK {
				t.Errorf("%d free, %d kept, %d asked for: %d gone, %d", n, keep, many, gone, e)
			}
		}
	}
	// The first one of all.
	full := of(leaf(1, 1, 2), pin)
	if got, p, n, e := Cut(full, 0, 0, 9, 5); e != api.ErrFull || p != 0 || n != 0 || !same(got, full) {
		t.Errorf("%d, %d gone, %d", p, n, e)
	}
	// The last one of all needs a free cell, though it takes none.
	h := with(of(leaf(1, 1, 2)), 1)
	want := of(pin, leaf(1, 2))
	if got, p, n, e := Cut(h, 0, 0, 9, 5); e != api.ErrFull || p != 1 || n != 1 || !same(got, want) {
		t.Errorf("%d, %d gone, %d: %v", p, n, e, got)
	}
}

// grove is a heap with drawn trees that share nodes, each with its items; all in it is sound.
type grove struct {
	h     api.Heap
	roots []int
	items [][]api.Item
}

// change does one drawn thing to a grove: a tree more, a copy of one, one less, what waits is free, an item is put, or items are taken out.
func (g *grove) change(t *testing.T, pick func(n int) int, keys int) api.Errno {
	t.Helper()
	i := 0
	if len(g.roots) > 0 {
		i = pick(len(g.roots))
	}
	do := pick(24)
	if len(g.roots) == 0 {
		do = 0
	}
	switch {
	case do == 0 && len(g.roots) < 6:
		g.roots, g.items = append(g.roots, -1), append(g.items, nil)
	case do == 1 && len(g.roots) < 6:
		if g.roots[i] >= 0 {
			g.h, _ = heap.Hold(g.h, g.roots[i])
		}
		g.roots, g.items = append(g.roots, g.roots[i]), append(g.items, g.items[i])
	case do == 2 && pick(2) == 0:
		if g.roots[i] >= 0 {
			g.h, _ = heap.Loose(g.h, g.roots[i])
		}
		g.roots, g.items = slices.Delete(g.roots, i, i+1), slices.Delete(g.items, i, i+1)
	case do < 4:
		g.h = heap.Settle(g.h)
	case do < 14:
		x := api.Item{K: pick(keys), V: pick(1000)}
		var e api.Errno
		if g.h, g.roots[i], e = grow.Put(g.h, g.roots[i], x.K, x.V, pick(3) > 0); e == api.OK {
			g.items[i] = whole(g.h, g.roots[i])
		}
	case do == 14:
		g.tower(i)
	case do < 18:
		return g.cut(t, i, pick(keys+2)-1, pick(keys+2), pick(6)-1)
	default:
		return g.del(t, i, pick, keys)
	}
	return api.OK
}

// tower lays a node of one item over a tree, if there is room, and takes such ones away again.
func (g *grove) tower(i int) {
	if r := g.roots[i]; r >= 0 && tree.High(g.h, r) < api.MaxHigh {
		h, p, e := heap.Alloc(g.h, api.Node{It: []api.Item{{K: whole(g.h, r)[0].K, V: r}}}, []int{r})
		if e == api.OK {
			g.h, g.roots[i] = h, p
		}
	}
}

// del takes an item out, mostly one that is there.
func (g *grove) del(t *testing.T, i int, pick func(n int) int, keys int) api.Errno {
	t.Helper()
	k := pick(keys+2) - 1
	if l := g.items[i]; len(l) > 0 && pick(4) > 0 {
		k = l[pick(len(l))].K
	}
	h, root, e := holds(t, g.h, g.roots[i], k)
	if e != api.OK {
		return e
	}
	g.h, g.roots[i] = h, root
	g.items[i] = slices.DeleteFunc(slices.Clone(g.items[i]), func(x api.Item) bool { return x.K == k })
	return api.OK
}

// cut takes items out of a range.
func (g *grove) cut(t *testing.T, i, lo, hi, many int) api.Errno {
	t.Helper()
	h, root, gone, e := holdsCut(t, g.h, g.roots[i], lo, hi, many)
	left := gone
	g.h, g.roots[i] = h, root
	g.items[i] = slices.DeleteFunc(slices.Clone(g.items[i]), func(x api.Item) bool {
		left--
		if x.K < lo || x.K >= hi {
			left++
			return false
		}
		return left >= 0
	})
	return e
}

// P10.1 to P10.4: drawn trees that share nodes: each call answers what was worked out apart; the new tree has the old one's items without those, all others have what they had, and all is sound.
func TestGrove(t *testing.T) {
	done := map[api.Errno]int{}
	high := 0
	for seed := range 60 {
		pick := picker(seed)
		size := 1 + pick(70)
		h, _ := heap.New(size, pick(size/6+1))
		g := &grove{h: h}
		keys := 1 + pick(80)
		for i := range 300 {
			done[g.change(t, pick, keys)]++
			if !audit.Sound(g.h, g.roots, nil) {
				t.Fatalf("%d, %d: %v, roots %v: not sound", seed, i, g.h, g.roots)
			}
			for j, r := range g.roots {
				if !tree.Right(g.h, r) || !slices.Equal(whole(g.h, r), g.items[j]) || !slices.Equal(tree.Scan(g.h, r, 0, keys), g.items[j]) {
					t.Fatalf("%d, %d: the tree %d has %v, not %v", seed, i, r, whole(g.h, r), g.items[j])
				}
				high = max(high, tree.High(g.h, r))
				l, p := holdsLow(t, g.h, r)
				roots := slices.Clone(g.roots)
				roots[j] = p
				if !audit.Sound(l, roots, nil) || !slices.Equal(whole(l, p), g.items[j]) {
					t.Fatalf("%d, %d: Low of the tree %d: not sound", seed, i, r)
				}
			}
		}
	}
	if len(done) != 3 || done[api.OK] < 5000 || done[api.ErrFull] < 500 || done[api.ErrNone] < 300 || high < 4 {
		t.Errorf("%v, and %d high", done, high)
	}
}

// laid is a tree of these keys, its nodes at drawn places of a heap of n cells, with drawn Refs, and what else a right heap may have around; and its root.
func laid(pick func(n int) int, n int, keys []int) (api.Heap, int) {
	h := api.Heap{C: make([]api.Cell, n), Keep: pick(4)}
	order := make([]int, n)
	for i := range order {
		j := pick(i + 1)
		order[i], order[j] = order[j], i
	}
	place := func(c api.Cell) int {
		p := order[0]
		order = order[1:]
		h.C[p] = c
		return p
	}
	var row []api.Item
	for len(keys) > 0 {
		m := min(1+pick(4), len(keys))
		row = append(row, api.Item{K: keys[0], V: place(leaf(1+pick(3), keys[:m]...))})
		keys = keys[m:]
	}
	for more := pick(4); len(row) > 1 || more > 0; {
		var up []api.Item
		if len(row) == 1 {
			more--
		}
		for len(row) > 0 {
			// Some have one item, but not so many that the tree would be too high.
			m := min(1+pick(4), len(row))
			if len(row) == 2 || len(up) > 6 {
				m = min(2+pick(3), len(row))
			}
			up = append(up, api.Item{K: row[0].K, V: place(api.Cell{Ref: 1 + pick(3), N: api.Node{It: slices.Clone(row[:m])}})})
			row = row[m:]
		}
		row = up
	}
	for range n / 4 {
		switch pick(4) {
		case 0:
			place(pin)
		case 1:
			place(leaf(1+pick(2), pick(9)))
		case 2:
			place(over(1, pick(9), pick(n), 10+pick(9), pick(n)))
		}
	}
	return h, row[0].V
}

// P10.1 to P10.4: right trees in heaps that are right, but where Refs tell nothing, and other nodes tell anything: each call answers just what the words say.
func TestUnsound(t *testing.T) {
	done := map[api.Errno]int{}
	for seed := range 1000 {
		pick := picker(seed)
		many := 1 + pick(40)
		var keys []int
		for k := pick(3); len(keys) < many; k += 1 + pick(3) {
			keys = append(keys, k)
		}
		h, root := laid(pick, 3*many+30+pick(20), keys)
		holdsLow(t, h, root)
		end := keys[len(keys)-1] + 3
		for range 4 {
			holdsCut(t, h, root, pick(end)-1, pick(end), pick(12)-1)
		}
		for e := api.OK; e != api.ErrFull && len(whole(h, root)) > 0; {
			l := whole(h, root)
			x := l[pick(len(l))]
			var got api.Heap
			var p int
			got, p, e = holds(t, h, root, x.K)
			done[e]++
			if e == api.OK && !slices.Equal(whole(got, p), less(l, x)) {
				t.Fatalf("%d: Del(%d) of %v: %v", seed, x.K, l, whole(got, p))
			}
			h, root = got, p
			if pick(15) == 0 {
				h = heap.Settle(h)
			}
		}
	}
	if done[api.OK] < 5000 || done[api.ErrFull] < 100 {
		t.Errorf("%v", done)
	}
}

// P10.3, P10.4: the greatest heap, all but full; its tree is cut down to nothing, some at a time, with a commit behind each.
func TestFilled(t *testing.T) {
	h, e := heap.New(2000, 40)
	root, n := -1, 0
	for ; e == api.OK; n++ {
		h, root, e = grow.Put(heap.Settle(h), root, n*7919%10007, n, false)
	}
	n--
	if e != api.ErrFull || n < 1500 || tree.High(h, root) < 6 {
		t.Fatalf("%d, %d items, %d high", e, n, tree.High(h, root))
	}
	for i := 0; n > 0 && i < 2000; i++ {
		lo := []int{0, 3000, 5000, 0}[i%4]
		was := tree.High(h, root)
		before := tree.Scan(h, root, 0, 20000)
		at := slices.IndexFunc(before, func(x api.Item) bool { return x.K >= lo })
		var gone int
		h, root, gone, e = Cut(heap.Settle(h), root, lo, 10007, 5)
		if at < 0 {
			at = len(before)
		}
		want := slices.Concat(before[:at], before[min(at+gone, len(before)):])
		if e != api.OK || gone != min(5, len(before)-at) || !slices.Equal(tree.Scan(h, root, 0, 20000), want) || !tree.Right(h, root) || tree.High(h, root) > was {
			t.Fatalf("%d: %d gone, %d", i, gone, e)
		}
		if i%10 == 0 && !audit.Sound(h, []int{root}, nil) {
			t.Fatalf("%d: not sound", i)
		}
		n -= gone
	}
	if n != 0 || root != -1 || heap.Free(heap.Settle(h)) != 2000 {
		t.Errorf("%d items left, the root %d", n, root)
	}
}

// The chapter's example: of 1 to 5 without 4 and 5: a leaf 1 to 3.
func TestExample(t *testing.T) {
	h, _ := heap.New(20, 0)
	h, root, e := grow.Fill(h, -1, items(1, 2, 3, 4, 5))
	if e != api.OK || tree.High(h, root) != 2 {
		t.Fatalf("%d, %d high", e, tree.High(h, root))
	}
	for _, order := range [][]int{{4, 5}, {5, 4}} {
		g, p := h, root
		for _, k := range order {
			if g, p, e = Del(g, p, k); e != api.OK {
				t.Fatalf("%d: %d", k, e)
			}
		}
		// The leaf is the one that was there: cell 4.
		if p != 4 || g.C[4].Ref != 1 || !g.C[4].N.Leaf || !slices.Equal(g.C[4].N.It, items(1, 2, 3)) || !audit.Sound(g, []int{4}, nil) {
			t.Errorf("%v: %d: %v", order, p, g)
		}
	}
	if g, p, n, e := Cut(h, root, 4, 6, 9); e != api.OK || n != 2 || p != 4 || !slices.Equal(whole(g, p), items(1, 2, 3)) {
		t.Errorf("%d, %d gone, %d", p, n, e)
	}
}

// ends calls all there are at a heap and a root, whatever they are; with an error nothing is half done.
func ends(t *testing.T, h api.Heap, root, k, many int) {
	t.Helper()
	Low(h, root)
	if got, p, e := Del(h, root, k); e != api.OK && (p != root || !same(got, h)) {
		t.Fatalf("Del(%d, %d): %d, %d", root, k, p, e)
	}
	if _, _, n, _ := Cut(h, root, 0, k, many); n < 0 || n > max(many, 0) {
		t.Fatalf("Cut(%d, 0, %d, %d): %d gone", root, k, many, n)
	}
	Cut(h, root, k, math.MaxInt, many)
	Cut(h, root, math.MinInt, math.MaxInt, 3)
}

// R1: no call panics, and all end, at heaps and roots that may not be, too.
func TestEnds(t *testing.T) {
	ring := api.Heap{C: make([]api.Cell, 1900)}
	for p := range ring.C {
		ring.C[p] = over(1, 1, (p+1)%1900, 2, p, 3, (p+7)%1900)
	}
	// From the first items on it is a tree, by others it is none.
	odd := of(leaf(1, 1), over(1, 1, 0, 5, 1, 9, 2, 12, 4), over(1, 1, 0, 5, 9), over(1, 1, 1, 5, 0, 7, 3, 9, 8), api.Cell{}, api.Cell{Ref: 1}, api.Cell{Ref: 1, N: api.Node{Leaf: true}},
		over(1, 1, 0, 5, 5), over(1, 5, 6, 9, 7, 12, -1), over(1, 1, 0, 1, 0, 5, 0, 7, 0, 9, 1), over(1, 9, 0, 1, 1), over(-1, 1, 0), over(math.MaxInt, 1, 0, 5, math.MaxInt, 9, math.MinInt), over(1, 1, 0, 5, 1999))
	// Nodes of one item: each in a ring, two in a ring, on the way to nothing, to what is no cell, and to too great a Ref.
	ones := of(over(1, 1, 0), over(5, 1, 2), over(5, 1, 1), api.Cell{}, over(1, 1, 3), over(1, 1, 4), over(1, 1, -1), over(1, 1, 99), leaf(math.MaxInt, 1), over(1, 1, 8), over(math.MaxInt, 1, 9), over(1, 1, 10), over(1, 1, 0, 2, 0))
	kept := func(h api.Heap, n int) api.Heap { h.Keep = n; return h }
	some, _ := some()
	for _, h := range []api.Heap{
		{}, of(), of(api.Cell{Ref: -1}), with(ring, 100), with(odd, 50), with(ones, 9), ones, with(chain(300, 1), 50), with(chain(300, 1, 2), 400), with(chain(2500, 1, 2), 9), kept(with(odd, 50), -1000), kept(odd, math.MinInt), kept(of(leaf(1, 1)), -9), kept(with(odd, 50), 4000),
		kept(of(leaf(1, 1, 2, 3, 4), over(1, 1, 0), over(1, 1, 0)), -99), with(some, 3000), with(of(leaf(1, 1, 2, 3, 4, 5, 6, 7, 8), over(1, 1, 0)), 50),
	} {
		was := deep(h)
		roots := min(len(h.C)+1, 40)
		if len(h.C) > 100 {
			roots = 3
		}
		for root := range roots {
			for _, k := range append([]int{-1, 0, 1, 3, 5, 7, 9, 12, 50, most}, far...) {
				ends(t, h, root, k, root%5)
			}
		}
		for _, r := range append([]int{-1, len(h.C) - 1, len(h.C)}, far...) {
			for _, k := range []int{math.MinInt, -1, 0, 1, 2, most, math.MaxInt} {
				ends(t, h, r, k, k)
			}
		}
		if !same(h, was) {
			t.Fatal("what was handed in is changed")
		}
	}
	// Nothing is half done there, either: what is told beside the way has no Ref, on the way's last node, or in the middle; the way is higher than the way by the first items; a Ref is too great.
	beside := with(of(leaf(1, 1, 2), over(1, 1, 0, 5, 2), pin, over(1, 1, 1), over(1, 1, 3), over(1, 1, 3, 9, 2), over(1, 1, 5)), 20)
	longer := with(of(leaf(1, 1), leaf(1, 5, 6), over(1, 5, 1), over(1, 5, 2), over(1, 1, 0, 5, 3)), 3)
	great := with(of(leaf(1, 1), over(math.MaxInt, 1, 0, 5, 2), over(1, 5, 1)), 20)
	for i, x := range []struct {
		h       api.Heap
		root, k int
		e       api.Errno
	}{{beside, 1, 1, api.ErrArg}, {beside, 3, 2, api.ErrArg}, {beside, 4, 1, api.ErrArg}, {beside, 6, 2, api.ErrArg}, {longer, 4, 5, api.ErrFull}, {longer, 4, 6, api.ErrFull}, {great, 1, 1, api.ErrNone}} {
		if got, p, e := Del(x.h, x.root, x.k); e != x.e || p != x.root || !same(got, x.h) {
			t.Errorf("%d: %d, %d, not %d", i, p, e, x.e)
		}
		if got, p, n, e := Cut(x.h, x.root, x.k, x.k+1, 9); e != x.e || p != x.root || n != 0 || !same(got, x.h) {
			t.Errorf("Cut, %d: %d, %d gone, %d, not %d", i, p, n, e, x.e)
		}
	}
}

// R1: the same, of drawn heaps that are right, with roots that are none of right trees, and of heaps that are not.
func TestEndsDrawn(t *testing.T) {
	done := map[api.Errno]int{}
	for seed := range 1000 {
		pick := picker(seed)
		n := 1 + pick(12)
		h := api.Heap{C: make([]api.Cell, n), Keep: pick(3)}
		for p := range h.C {
			ref, k := 1+pick(3), 0
			if seed%4 == 0 && pick(4) == 0 {
				ref = pick(5) - 2
			}
			for range 1 + pick(4) {
				v := pick(n)
				if seed%4 == 0 && pick(9) == 0 {
					v = far[pick(len(far))]
				}
				h.C[p].N.It = append(h.C[p].N.It, api.Item{K: k, V: v})
				k += 1 + pick(3)
			}
			if h.C[p].Ref, h.C[p].N.Leaf = ref, pick(3) == 0; pick(4) == 0 {
				h.C[p] = api.Cell{}
			}
		}
		h = with(h, 1+pick(20))
		was := deep(h)
		for root := -1; root <= n; root++ {
			for k := -1; k < 8; k++ {
				ends(t, h, root, k, pick(9)-1)
				_, _, e := Del(h, root, k)
				done[e]++
			}
		}
		if !same(h, was) {
			t.Fatal("what was handed in is changed")
		}
	}
	if done[api.OK] < 1000 || done[api.ErrNone] < 1000 {
		t.Errorf("%v", done)
	}
}

// R3: what is handed in isn't written into, not even behind its end, and isn't kept.
func TestHandedIn(t *testing.T) {
	h, _ := some()
	h = with(h, 20)
	h.Keep = 1
	cells := append(deep(h).C, leaf(5, 5), pin, api.Cell{})
	for p := range cells {
		// Room behind each node's items, too.
		it := append(cells[p].N.It, items(-7, -8, -9, -10, -11)...)
		cells[p].N.It = it[:len(cells[p].N.It)]
	}
	part := api.Heap{C: cells[:len(h.C)], Keep: 1}
	behind := func() []api.Item {
		var l []api.Item
		for _, c := range cells {
			l = append(l, c.N.It[:len(c.N.It)+5]...)
		}
		return l
	}
	was, wasBehind := deep(of(cells...)), behind()
	var all []api.Heap
	for _, root := range []int{-1, 0, 5, 6, 7, 8, 9} {
		for _, k := range []int{0, 10, 11, 22, 23, 30, 42, 43, 50, most} {
			x, _, _ := Del(part, root, k)
			y, _, _, _ := Cut(part, root, k-1, k+12, 4)
			all = append(all, x, y)
		}
		x, _ := Low(part, root)
		all = append(all, x)
	}
	if !same(of(cells...), was) || !slices.Equal(behind(), wasBehind) {
		t.Fatal("what was handed in is changed")
	}
	var copies []api.Heap
	for _, x := range all {
		copies = append(copies, deep(x))
	}
	// What came out stays as it was, whatever is done with it and with what was handed in.
	for i, x := range all {
		for _, root := range []int{7, 9} {
			if x.C[root].Ref > 0 {
				Del(x, root, 30)
				Cut(x, root, 0, 99, 99)
				Low(x, 6)
				Del(part, root, 30)
				heap.Loose(x, root)
			}
		}
		if !same(x, copies[i]) || !slices.Equal(behind(), wasBehind) {
			t.Fatalf("%d: changed", i)
		}
	}
}

// R4: the same arguments, the same answers.
func TestSameAnswers(t *testing.T) {
	h, _ := some()
	a, p, n, e := Cut(h, 7, 11, 42, 4)
	for range 3 {
		Cut(of(leaf(1, 5, 6), api.Cell{}, api.Cell{}), 0, 0, 9, 1)
		Del(h, 9, 10)
		Low(h, 6)
		b, q, m, f := Cut(deep(h), 7, 11, 42, 4)
		if p != q || n != m || e != f || !same(a, b) {
			t.Fatal("another answer")
		}
	}
}
