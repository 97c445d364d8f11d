package tree

import (
	"math"
	"slices"
	"testing"

	"assart/api"
)

// far are numbers that are no places of the heaps here, nor keys in their trees, but -1.
var far = []int{math.MinInt, math.MinInt + 1, -1 << 32, -1 << 31, -2001, -2000, -2, 2000, 2001, 4000, 1 << 31, 1 << 32, math.MaxInt - 1, math.MaxInt}

// leaf is a cell with a leaf of these keys, each of which tells ten times itself and one.
func leaf(k ...int) api.Cell {
	c := api.Cell{Ref: 1, N: api.Node{Leaf: true}}
	for _, x := range k {
		c.N.It = append(c.N.It, item(x))
	}
	return c
}

// item is a leaf's item of a key.
func item(k int) api.Item { return api.Item{K: k, V: (10*k + 1) % api.Most} }

// over is a cell with a node that is no leaf, of these keys and places in turn.
func over(kp ...int) api.Cell {
	c := api.Cell{Ref: 1}
	for i := 0; i+1 < len(kp); i += 2 {
		c.N.It = append(c.N.It, api.Item{K: kp[i], V: kp[i+1]})
	}
	return c
}

func of(c ...api.Cell) api.Heap { return api.Heap{C: c} }

// deep is a heap's copy, in memory of its own.
func deep(h api.Heap) api.Heap {
	h.C = slices.Clone(h.C)
	for i := range h.C {
		h.C[i].N.It = slices.Clone(h.C[i].N.It)
	}
	return h
}

// same: are two heaps the same?
func same(a, b api.Heap) bool {
	return a.Keep == b.Keep && slices.EqualFunc(a.C, b.C, func(x, y api.Cell) bool {
		return x.Ref == y.Ref && x.Pin == y.Pin && x.N.Leaf == y.N.Leaf && slices.Equal(x.N.It, y.N.It)
	})
}

// some is the heap of a tree of three nodes' height at 8, with more beside it: a tree at 9 that shares nodes of it, and what is no tree.
func some() api.Heap {
	h := of(
		leaf(5, 7),               // 0
		api.Cell{},               // 1
		leaf(1, 3, 4),            // 2
		over(1, 2, 5, 0),         // 3
		api.Cell{Pin: true},      // 4
		leaf(20, 25, 30, 35),     // 5
		leaf(9),                  // 6
		over(9, 6, 20, 5),        // 7
		over(1, 3, 9, 7),         // 8
		over(1, 3, 9, 7, 40, 10), // 9
		over(40, 11),             // 10
		leaf(40, api.Most),       // 11
		over(1, 1),               // 12: over a free cell
		over(1, 4),               // 13: over one that waits
		over(1, 2, 9, 7),         // 14: over trees that aren't as high
		over(1, 15),              // 15: over itself
		over(0, 17),              // 16: with 17 a ring
		over(0, 16),              // 17
	)
	for _, p := range []int{2, 3, 5, 6, 7} {
		h.C[p].Ref = 2
	}
	h.Keep = 3
	return h
}

// picker is a row of numbers that look as if they were drawn; the same for the same seed.
func picker(seed int) func(n int) int {
	x := uint64(seed)*2654435761 + 12345
	return func(n int) int {
		x = x*6364136223846793005 + 1442695040888963407
		return int(x>>33) % n
	}
}

// laid is a tree of these keys, its nodes at drawn places of a heap of n cells, each with from 1 to as many items as are told; and its root, its height, and its places in order.
func laid(pick func(n int) int, n, items int, keys []int) (h api.Heap, root, high int, order []int) {
	type part struct {
		at    int
		k     int
		below []int
	}
	h = api.Heap{C: make([]api.Cell, n)}
	free := make([]int, n)
	for i := range free {
		j := pick(i + 1)
		free[i], free[j] = free[j], i
	}
	lay := func(c api.Cell, below []int) part {
		p := free[0]
		free = free[1:]
		c.Ref = 1 + pick(3)
		h.C[p] = c
		return part{p, c.N.It[0].K, append([]int{p}, below...)}
	}
	var row []part
	for len(keys) > 0 {
		m := min(1+pick(items), len(keys))
		row = append(row, lay(leaf(keys[:m]...), nil))
		keys = keys[m:]
	}
	for high = 1; len(row) > 1; high++ {
		var up []part
		for len(row) > 0 {
			// All but the last one at least two, so that the rows come to an end.
			m := min(2+pick(items), api.PerNode, len(row))
			var c api.Cell
			var below []int
			for _, x := range row[:m] {
				c.N.It = append(c.N.It, api.Item{K: x.k, V: x.at})
				below = append(below, x.below...)
			}
			up = append(up, lay(c, below))
			row = row[m:]
		}
		row = up
	}
	return h, row[0].at, high, row[0].below
}

// drawn are so many keys, rising.
func drawn(pick func(n int) int, many, step int) []int {
	var l []int
	for k := pick(3); len(l) < many; k += 1 + pick(step) {
		l = append(l, k)
	}
	return l
}

// chain is a tree of so many nodes below one another, the last one a leaf of these keys; its root is its last cell.
func chain(high int, k ...int) api.Heap {
	h := of(leaf(k...))
	for p := range high - 1 {
		h.C = append(h.C, over(k[0], p))
	}
	return h
}

// model is what stands below a place, by the words alone: the keys of all leaves, and how many nodes away these are; none, if anything isn't as the words ask.
func model(h api.Heap, p, room int) (keys []int, high int, ok bool) {
	if p < 0 || p >= len(h.C) || h.C[p].Ref < 1 || room == 0 {
		return nil, 0, false
	}
	n := h.C[p].N
	if n.Leaf {
		for _, x := range n.It {
			keys = append(keys, x.K)
		}
		return keys, 1, true
	}
	var parts [][]int
	for i, x := range n.It {
		k, more, ok := model(h, x.V, room-1)
		if !ok || i > 0 && more+1 != high || slices.Min(k) != x.K {
			return nil, 0, false
		}
		high = more + 1
		parts = append(parts, k)
		keys = append(keys, k...)
	}
	for i := range len(parts) - 1 {
		if slices.Max(parts[i]) >= n.It[i+1].K {
			return nil, 0, false
		}
	}
	return keys, high, true
}

// right is Right, worked out apart from it.
func right(h api.Heap, root int) bool {
	_, _, ok := model(h, root, 20)
	return ok || root == -1
}

// whole is all a tree's items, worked out apart from Scan.
func whole(h api.Heap, root int) []api.Item {
	if root == -1 {
		return nil
	}
	n := h.C[root].N
	if n.Leaf {
		return slices.Clone(n.It)
	}
	var l []api.Item
	for _, x := range n.It {
		l = append(l, whole(h, x.V)...)
	}
	return l
}

// between is those items whose keys are from lo on, and below hi.
func between(l []api.Item, lo, hi int) []api.Item {
	var m []api.Item
	for _, x := range l {
		if x.K >= lo && x.K < hi {
			m = append(m, x)
		}
	}
	return m
}

// P7.1: what is right, and how high it is.
func TestRight(t *testing.T) {
	h := some()
	for root, high := range map[int]int{-1: 0, 0: 1, 2: 1, 5: 1, 6: 1, 11: 1, 3: 2, 7: 2, 10: 2, 8: 3, 9: 3} {
		if !Right(h, root) || High(h, root) != high {
			t.Errorf("%d: right %v, %d high, not %d", root, Right(h, root), High(h, root), high)
		}
	}
	for _, root := range append([]int{1, 4, 12, 13, 14, 15, 16, 17, 18, 19}, far...) {
		if Right(h, root) {
			t.Errorf("%d: right", root)
		}
	}
}

// P7.1: no tree is right of any heap.
func TestRightNone(t *testing.T) {
	for _, h := range []api.Heap{of(api.Cell{}), of(leaf(1)), some(), {C: make([]api.Cell, 2000), Keep: 2000}, of(api.Cell{Pin: true})} {
		if !Right(h, -1) || High(h, -1) != 0 {
			t.Errorf("%d cells: right %v, %d high", len(h.C), Right(h, -1), High(h, -1))
		}
	}
}

// P7.1: a root, and what is told, must be a cell's place, the last one's too.
func TestRightPlaces(t *testing.T) {
	long := api.Heap{C: make([]api.Cell, 2000)}
	long.C[1999] = leaf(1, 2)
	long.C[0] = over(1, 1999)
	for root, want := range map[int]bool{0: true, 1999: true, 1: false, 1998: false, 2000: false} {
		if Right(long, root) != want {
			t.Errorf("%d: %v", root, !want)
		}
	}
	one := of(leaf(3))
	for _, root := range append([]int{1, 2}, far...) {
		if Right(one, root) {
			t.Errorf("%d: right, of one cell", root)
		}
	}
	if !Right(one, 0) {
		t.Error("0: not right, of one cell")
	}
}

// P7.1: each node's cell has a Ref above 0, the root's too.
func TestRightRefs(t *testing.T) {
	for _, gone := range []api.Cell{{}, {Pin: true}} {
		for _, p := range []int{8, 3, 7, 2, 0, 6, 5} {
			h := some()
			h.C[p] = gone
			if Right(h, 8) {
				t.Errorf("%d has no Ref: right", p)
			}
		}
	}
	for _, p := range []int{8, 3, 7, 2, 0, 6, 5} {
		// No right heap has these, but the words ask for the Ref.
		for _, ref := range []int{0, -1, math.MinInt} {
			h := some()
			h.C[p].Ref = ref
			if Right(h, 8) {
				t.Errorf("%d has Ref %d: right", p, ref)
			}
		}
		for _, ref := range []int{1, 2, api.Most} {
			h := some()
			h.C[p].Ref = ref
			if !Right(h, 8) {
				t.Errorf("%d has Ref %d: not right", p, ref)
			}
		}
	}
}

// P7.1: all leaves are as many nodes away, at most 20.
func TestRightHigh(t *testing.T) {
	for high := 1; high <= 50; high++ {
		h := chain(high, 3, 9)
		if got := Right(h, high-1); got != (high <= 20) {
			t.Errorf("%d nodes: %v", high, got)
		}
		if got := High(h, high-1); high <= 20 && got != high {
			t.Errorf("%d nodes: %d high", high, got)
		}
	}
	// Beside a row of some nodes a longer or a shorter one.
	for a := 1; a <= 20; a++ {
		for b := 1; b <= 21; b++ {
			h := chain(a, 3, 9)
			h.C = append(h.C, leaf(10, 11))
			for range b - 1 {
				h.C = append(h.C, over(10, len(h.C)-1))
			}
			h.C = append(h.C, over(3, a-1, 10, len(h.C)-1))
			if got := Right(h, len(h.C)-1); got != (a == b && a < 20) {
				t.Errorf("%d and %d nodes: %v", a, b, got)
			}
		}
	}
}

// P7.1: each item of a node that is no leaf has for its K the least key below it.
func TestRightLeast(t *testing.T) {
	for i, x := range []struct {
		p, item int
		k       []int // what K may not be
	}{
		{3, 0, []int{0, 2, 3, 4}}, {3, 1, []int{4, 6, 7, 8, api.Most}}, {7, 0, []int{0, 1, 8, 10, 19}}, {7, 1, []int{19, 21, 25, 35, 10}},
		{8, 0, []int{0, 2, 3, 5, 8}}, {8, 1, []int{8, 10, 20, 5, 2, api.Most}},
	} {
		for _, k := range x.k {
			h := deep(some())
			h.C[x.p].N.It[x.item].K = k
			if Right(h, 8) {
				t.Errorf("%d: K %d: right", i, k)
			}
		}
	}
	// The least key is asked for in a root of one item, too.
	if Right(of(leaf(4, 5), over(3, 0)), 1) || Right(of(leaf(4, 5), over(5, 0)), 1) || !Right(of(leaf(4, 5), over(4, 0)), 1) {
		t.Error("a root of one item")
	}
}

// P7.1: all keys below an item, but the last one, are below the next item's K.
func TestRightRises(t *testing.T) {
	for i, x := range []struct {
		p    int
		c    api.Cell
		want bool
	}{
		{2, leaf(1, 3, 4), true}, {2, leaf(1, 5), false}, {2, leaf(1, 4, 6), false}, {2, leaf(1, 2, 3, 100), false},
		{0, leaf(5, 8), true}, {0, leaf(5, 9), false}, {0, leaf(5, 6, 10), false}, {0, leaf(5, 19), false}, {0, leaf(5, api.Most), false},
		{6, leaf(9, 19), true}, {6, leaf(9, 20), false}, {6, leaf(9, 36), false},
		// Below the last item there is no bound but that of the nodes over it.
		{5, leaf(20, api.Most), true}, {3, over(1, 2), true}, {3, over(1, 2, 5, 0, 9, 6), false}, {7, over(9, 6), true}, {7, over(9, 6, 20, 5, 40, 11), true},
	} {
		h := some()
		h.C[x.p] = x.c
		if Right(h, 8) != x.want {
			t.Errorf("%d: %v", i, !x.want)
		}
	}
	// The bound holds however far below the leaf is.
	for high := 1; high < 20; high++ {
		for last, want := range map[int]bool{8: true, 9: false, 10: false} {
			h := chain(high, 3, last)
			h.C = append(h.C, leaf(9))
			for range high - 1 {
				h.C = append(h.C, over(9, len(h.C)-1))
			}
			h.C = append(h.C, over(3, high-1, 9, len(h.C)-1))
			if Right(h, len(h.C)-1) != want {
				t.Errorf("%d nodes, the last key %d: %v", high, last, !want)
			}
		}
	}
}

// P7.1: a node may be in many trees, but not twice in one.
func TestRightShared(t *testing.T) {
	h := of(leaf(1, 2), leaf(5), over(1, 0, 5, 1), over(1, 0), over(5, 1), over(1, 3, 5, 4), over(1, 0, 2, 0), over(1, 2, 5, 4), over(1, 3, 5, 2))
	for root, want := range map[int]bool{2: true, 3: true, 4: true, 5: true, 6: false, 7: false, 8: false} {
		if Right(h, root) != want {
			t.Errorf("%d: %v", root, !want)
		}
	}
}

// P7.1: what is drawn as a tree is right; behind one change of any one thing it is so just if the words say so.
func TestRightChanged(t *testing.T) {
	for seed := range 60 {
		pick := picker(seed)
		keys := drawn(pick, 1+pick(25), 1+pick(4))
		h, root, high, _ := laid(pick, 60, 1+pick(4), keys)
		if !Right(h, root) || !right(h, root) || High(h, root) != high {
			t.Fatalf("%d: right %v, %d high, not %d", seed, Right(h, root), High(h, root), high)
		}
		for p := range h.C {
			for i := range h.C[p].N.It {
				for _, by := range []int{-3, -2, -1, 1, 2, 3, pick(60), -pick(60)} {
					changed(t, h, root, p, func(c *api.Cell) { c.N.It[i].K += by })
					changed(t, h, root, p, func(c *api.Cell) { c.N.It[i].V = (c.N.It[i].V + by + 60) % 60 })
				}
				changed(t, h, root, p, func(c *api.Cell) { c.N.It = slices.Delete(c.N.It, i, i+1) })
			}
			changed(t, h, root, p, func(c *api.Cell) { *c = api.Cell{Pin: true} })
			changed(t, h, root, p, func(c *api.Cell) { *c = h.C[pick(60)] })
			changed(t, h, root, p, func(c *api.Cell) { c.N.Leaf = !c.N.Leaf })
		}
	}
}

// changed holds Right of all roots against right, behind a change of one cell, where the heap is right then.
func changed(t *testing.T, h api.Heap, root, p int, change func(c *api.Cell)) {
	t.Helper()
	if h.C[p].Ref == 0 {
		return
	}
	h.C = slices.Clone(h.C)
	h.C[p].N.It = slices.Clone(h.C[p].N.It)
	change(&h.C[p])
	if !rightCell(h.C[p], len(h.C)) {
		return
	}
	for _, r := range []int{root, p} {
		if got := Right(h, r); got != right(h, r) {
			t.Fatalf("%d, %v at %d: %v", r, h.C[p], p, got)
		}
	}
}

// rightCell: may a right heap of n cells have it?
func rightCell(c api.Cell, n int) bool {
	if c.Ref == 0 {
		return len(c.N.It) == 0 && !c.N.Leaf
	}
	last := -1
	for _, x := range c.N.It {
		if x.K <= last || x.V < 0 || !c.N.Leaf && x.V >= n {
			return false
		}
		last = x.K
	}
	return len(c.N.It) > 0 && len(c.N.It) <= 4 && last <= api.Most
}

// P7.1: of heaps of which each node is drawn for itself, rings and shared nodes among them.
func TestRightDrawn(t *testing.T) {
	many := 0
	for seed := range 20000 {
		pick := picker(seed)
		h := api.Heap{C: make([]api.Cell, 1+pick(6))}
		for p := range h.C {
			if pick(8) == 0 {
				h.C[p].Pin = pick(2) == 0
				continue
			}
			c := api.Cell{Ref: 1 + pick(2), N: api.Node{Leaf: pick(2) == 0}}
			for k := pick(6); len(c.N.It) < 1+pick(4); k += 1 + pick(4) {
				c.N.It = append(c.N.It, api.Item{K: k, V: pick(len(h.C))})
			}
			h.C[p] = c
		}
		for root := -2; root <= len(h.C); root++ {
			got := Right(h, root)
			if got != right(h, root) {
				t.Fatalf("%d: %d of %v: %v", seed, root, h, got)
			}
			if got && root >= 0 && !h.C[root].N.Leaf {
				many++
			}
		}
	}
	if many < 100 {
		t.Errorf("just %d trees of two nodes or more were right", many)
	}
}

// R1: Right ends soon, however often nodes tell one another.
func TestRightEnds(t *testing.T) {
	// Twenty rows, of which each node tells the next row's four times over, or four ones of it.
	four := chain(20, 1, 2, 3, 4)
	for p := 1; p < 20; p++ {
		four.C[p] = over(1, p-1, 2, p-1, 3, p-1, 4, p-1)
	}
	if Right(four, 19) {
		t.Error("each node four times: right")
	}
	var rows api.Heap
	for i := range 20 {
		for k := range 90 {
			c := leaf(k)
			if i > 0 {
				c = api.Cell{Ref: 1}
				for j := k; j < min(k+4, 90); j++ {
					c.N.It = append(c.N.It, api.Item{K: j, V: 90*(i-1) + j})
				}
			}
			rows.C = append(rows.C, c)
		}
	}
	if !Right(rows, 90) || !Right(rows, 179) || Right(rows, 180) || Right(rows, 19*90) {
		t.Error("each node told by four")
	}
	ring := api.Heap{C: make([]api.Cell, 2000)}
	for p := range ring.C {
		ring.C[p] = over(1, (p+1)%2000, 2, p, 3, (p+7)%2000)
	}
	for _, p := range []int{0, 1, 1999} {
		if Right(ring, p) {
			t.Errorf("%d, of a ring: right", p)
		}
	}
}

// P7.2: what a key tells; ErrNone, and 0, if there is no such item.
func TestGet(t *testing.T) {
	h := some()
	for root, keys := range map[int][]int{-1: nil, 0: {5, 7}, 3: {1, 3, 4, 5, 7}, 8: {1, 3, 4, 5, 7, 9, 20, 25, 30, 35}, 9: {1, 3, 4, 5, 7, 9, 20, 25, 30, 35, 40, api.Most}} {
		all := slices.Concat(keys, far, []int{-1, 0, 2, 6, 8, 10, 19, 21, 24, 26, 29, 31, 34, 36, 39, 41, 1999, api.Most - 1, 1 << 20})
		for _, k := range all {
			v, e := Get(h, root, k)
			if in := slices.Contains(keys, k); in && (v != item(k).V || e != api.OK) || !in && (v != 0 || e != api.ErrNone) {
				t.Errorf("%d: Get(%d): %d, %d", root, k, v, e)
			}
		}
	}
}

// P7.2: what an item tells may be any number, 0 too; what is told over the leaves isn't taken for it.
func TestGetValues(t *testing.T) {
	h := of(api.Cell{Ref: 1, N: api.Node{Leaf: true, It: []api.Item{{K: 0, V: 0}, {K: 1, V: api.Most}, {K: 7, V: 1}}}}, over(0, 0))
	for k, v := range map[int]int{0: 0, 1: api.Most, 7: 1} {
		if got, e := Get(h, 1, k); got != v || e != api.OK {
			t.Errorf("Get(%d): %d, %d", k, got, e)
		}
	}
}

// P7.2: the items from lo on, and below hi.
func TestScan(t *testing.T) {
	h := some()
	for _, root := range []int{-1, 0, 2, 3, 5, 6, 7, 8, 9, 10, 11} {
		all := whole(h, root)
		bounds := append([]int{-1, 1998, 1999, api.Most - 1, api.Most}, far...)
		for k := range 43 {
			bounds = append(bounds, k)
		}
		for _, lo := range bounds {
			for _, hi := range bounds {
				if got := Scan(h, root, lo, hi); !slices.Equal(got, between(all, lo, hi)) {
					t.Fatalf("%d: Scan(%d, %d): %v", root, lo, hi, got)
				}
			}
		}
	}
}

// P7.2, P7.4: of drawn trees: Get tells what Scan tells; items rise; two scans, one behind the other, are the scan of both; leaves' items are all.
func TestDrawn(t *testing.T) {
	for seed := range 60 {
		pick := picker(seed)
		keys := drawn(pick, 1+pick(60), 1+pick(5))
		h, root, _, _ := laid(pick, 150, 1+pick(4), keys)
		end := keys[len(keys)-1] + 3
		all := Scan(h, root, 0, end)
		if !slices.Equal(all, whole(h, root)) || len(all) != len(keys) {
			t.Fatalf("%d: Scan of all: %v, of keys %v", seed, all, keys)
		}
		for i, x := range all {
			if x != item(keys[i]) {
				t.Fatalf("%d: item %d: %v, not %v", seed, i, x, item(keys[i]))
			}
		}
		for lo := -2; lo <= end; lo++ {
			one := Scan(h, root, lo, lo+1)
			v, e := Get(h, root, lo)
			if len(one) == 0 && (v != 0 || e != api.ErrNone) || len(one) > 0 && (len(one) != 1 || one[0] != (api.Item{K: lo, V: v}) || e != api.OK) {
				t.Fatalf("%d: Get(%d): %d, %d; Scan: %v", seed, lo, v, e, one)
			}
			hi := lo + pick(end)
			mid := lo + pick(hi-lo+1)
			both := slices.Concat(Scan(h, root, lo, mid), Scan(h, root, mid, hi))
			if got := Scan(h, root, lo, hi); !slices.Equal(got, between(all, lo, hi)) || !slices.Equal(got, both) {
				t.Fatalf("%d: Scan(%d, %d): %v, by two: %v", seed, lo, hi, got, both)
			}
		}
	}
}

// P7.1 to P7.3: the highest tree.
func TestHighest(t *testing.T) {
	h := chain(20, 2, 4)
	if v, e := Get(h, 19, 4); v != 41 || e != api.OK {
		t.Errorf("Get: %d, %d", v, e)
	}
	if l := Scan(h, 19, 3, 9); !slices.Equal(l, []api.Item{item(4)}) {
		t.Errorf("Scan: %v", l)
	}
	if l := Nodes(h, 19); len(l) != 20 || l[0] != 19 || l[19] != 0 {
		t.Errorf("Nodes: %v", l)
	}
}

// P7.1 to P7.3: the greatest tree, that has all cells of the greatest heap: 1498 leaves, and 375, 94, 24, 6, 2 and 1 nodes over them.
func TestGreatest(t *testing.T) {
	h := api.Heap{C: make([]api.Cell, 2000)}
	var row []api.Item
	for p := range 1498 {
		k := 4000 * p
		h.C[p] = leaf(k, k+1, k+7, k+999)
		row = append(row, api.Item{K: k, V: p})
	}
	for p := 1498; len(row) > 1; {
		var up []api.Item
		for part := range slices.Chunk(row, 4) {
			h.C[p] = api.Cell{Ref: 1, N: api.Node{It: part}}
			up = append(up, api.Item{K: part[0].K, V: p})
			p++
		}
		row = up
	}
	all := Scan(h, 1999, 0, api.Most)
	if !Right(h, 1999) || High(h, 1999) != 7 || len(Nodes(h, 1999)) != 2000 || !slices.Equal(all, whole(h, 1999)) || len(all) != 4*1498 {
		t.Errorf("right %v, %d high, %d nodes, %d items", Right(h, 1999), High(h, 1999), len(Nodes(h, 1999)), len(all))
	}
	for k := 0; k < 4000*1498; k += 37 {
		in := slices.Contains([]int{0, 1, 7, 999}, k%4000)
		if v, e := Get(h, 1999, k); in && (v != item(k).V || e != api.OK) || !in && (v != 0 || e != api.ErrNone) {
			t.Fatalf("Get(%d): %d, %d", k, v, e)
		}
		// A key is found by the way to it, not by going through what is ahead of it.
		many := 0
		for _, n := range nodes(h, 1999, k) {
			if many++; n.Leaf {
				break
			}
		}
		if many != 7 {
			t.Fatalf("%d nodes on the way to %d", many, k)
		}
	}
}

// P7.3: twice that, and 1; it goes round at 2^64.
func TestNeed(t *testing.T) {
	for high := -3; high <= 30; high++ {
		if got := Need(high); got != high+high+1 {
			t.Errorf("Need(%d): %d", high, got)
		}
	}
	for high, want := range map[int]int{math.MaxInt: -1, math.MinInt: 1, math.MaxInt/2 + 1: math.MinInt + 1, math.MaxInt / 2: math.MaxInt, math.MinInt / 2: math.MinInt + 1} {
		if got := Need(high); got != want {
			t.Errorf("Need(%d): %d, not %d", high, got, want)
		}
	}
}

// P7.3: a root, and behind it, for each item, in order, the Nodes of what that tells.
func TestNodes(t *testing.T) {
	h := some()
	for root, want := range map[int][]int{-1: nil, 0: {0}, 11: {11}, 3: {3, 2, 0}, 10: {10, 11}, 8: {8, 3, 2, 0, 7, 6, 5}, 9: {9, 3, 2, 0, 7, 6, 5, 10, 11}} {
		if got := Nodes(h, root); !slices.Equal(got, want) {
			t.Errorf("%d: %v, not %v", root, got, want)
		}
	}
	for seed := range 60 {
		pick := picker(seed)
		h, root, _, order := laid(pick, 150, 1+pick(4), drawn(pick, 1+pick(60), 9))
		if got := Nodes(h, root); !slices.Equal(got, order) {
			t.Errorf("%d: %v, not %v", seed, got, order)
		}
	}
}

// The chapter's example: of a leaf 1, 2 and another one 5 below a node: the scan from 2 to 6: 2, 5.
func TestExample(t *testing.T) {
	h := of(leaf(1, 2), leaf(5), over(1, 0, 5, 1))
	if l := Scan(h, 2, 2, 6); !slices.Equal(l, []api.Item{item(2), item(5)}) {
		t.Errorf("Scan: %v", l)
	}
}

// R1: no call panics, and all end soon, at what is no right tree, or no right heap, either.
func TestEnds(t *testing.T) {
	four := chain(20, 1, 2, 3, 4)
	for p := 1; p < 20; p++ {
		four.C[p] = over(1, p-1, 2, p-1, 3, p-1, 4, p-1)
	}
	ring := api.Heap{C: make([]api.Cell, 2000)}
	for p := range ring.C {
		ring.C[p] = over(1, (p+1)%2000, 2, p, 3, (p+7)%2000)
	}
	down := chain(20, 5, 0)
	for p := 1; p < 20; p++ {
		down.C[p] = over(5, p-1, 0, p-1, 5, p-1, 0, p-1, 5, p-1, 0, p-1)
	}
	heaps := []api.Heap{
		some(), four, ring, down, {}, chain(300, 1), of(api.Cell{Ref: 1}), of(api.Cell{Ref: 1, N: api.Node{Leaf: true}}), of(api.Cell{Ref: -1, N: leaf(1).N}),
		of(over(1, -1)), of(over(1, 1)), of(over(1, math.MinInt, 2, math.MaxInt)), of(over(1, 1, 2, 5), api.Cell{Ref: 1}), of(leaf(3, 2, 1)), of(over(2, 1, 1, 1), leaf(1)),
	}
	all := append([]int{-1, 0, 1, 2, 4, 12, 13, 14, 15, 16, 17, 18, 19, 299, 1999}, far...)
	for _, h := range heaps {
		for _, root := range all {
			Right(h, root)
			High(h, root)
			Nodes(h, root)
			for _, k := range all {
				Get(h, root, k)
				Scan(h, root, k, k+1)
				Scan(h, root, k, api.Most)
				Scan(h, root, math.MinInt, k)
			}
		}
	}
}

// R3: what is handed in isn't written into; who writes into what came out changes neither that nor another answer.
func TestHandedIn(t *testing.T) {
	h, was := some(), some()
	for root := -1; root < len(h.C); root++ {
		Right(h, root)
		High(h, root)
		Get(h, root, 20)
		if !Right(h, root) {
			continue
		}
		for _, hi := range []int{0, 4, 8, 26, api.Most, math.MaxInt} {
			l, wantNodes := Scan(h, root, 2, hi), Nodes(h, root)
			nodes := Nodes(h, root)
			for i := range l {
				l[i] = api.Item{K: -5, V: -5}
			}
			for i := range nodes {
				nodes[i] = -5
			}
			_ = append(l, api.Item{K: -6, V: -6})
			_ = append(nodes, -6)
			if !same(h, was) || !slices.Equal(Scan(h, root, 2, hi), between(whole(was, root), 2, hi)) || !slices.Equal(Nodes(h, root), wantNodes) {
				t.Fatalf("%d: changed", root)
			}
		}
	}
}

// R4: the same arguments, the same answers.
func TestSameAnswers(t *testing.T) {
	for range 3 {
		for _, h := range []api.Heap{of(leaf(1)), some(), chain(20, 3, 4)} {
			for root := -2; root <= len(h.C); root++ {
				Right(h, root)
				Nodes(h, root)
				Scan(h, root, 3, 9)
			}
		}
		h := some()
		v, e := Get(h, 8, 9)
		if !Right(h, 8) || Right(h, 14) || High(h, 8) != 3 || v != 91 || e != api.OK || len(Scan(h, 8, 3, 9)) != 4 || len(Nodes(h, 8)) != 7 {
			t.Fatal("another answer")
		}
	}
}
