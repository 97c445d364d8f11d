package heap

import (
	"math"
	"slices"
	"testing"

	"assart/api"
)

// far are numbers that are no places of the heaps here, nor numbers of their cells, but 0.
var far = []int{math.MinInt, math.MinInt + 1, -1 << 32, -1 << 31, -2001, -2000, -2, -1, 2000, 2001, 4000, 65536, api.Most, api.Most + 1, 1 << 32, math.MaxInt - 1, math.MaxInt}

// leaf is a leaf of one item.
func leaf(k int) api.Node { return api.Node{Leaf: true, It: []api.Item{{K: k, V: k}}} }

// over is a node that is no leaf, over cells at these places.
func over(at ...int) api.Node {
	var n api.Node
	for i, p := range at {
		n.It = append(n.It, api.Item{K: 10 * i, V: p})
	}
	return n
}

// cell is one with a node to which so many refer.
func cell(ref int, n api.Node) api.Cell { return api.Cell{Ref: ref, N: n} }

// of is a heap of these cells that keeps none.
func of(c ...api.Cell) api.Heap { return api.Heap{C: c} }

// deep is a heap's copy, in memory of its own.
func deep(h api.Heap) api.Heap {
	h.C = slices.Clone(h.C)
	for i := range h.C {
		h.C[i].N.It = slices.Clone(h.C[i].N.It)
	}
	return h
}

// same is Same, worked out apart from it.
func same(a, b api.Heap) bool {
	if a.Keep != b.Keep || len(a.C) != len(b.C) {
		return false
	}
	for i := range a.C {
		x, y := a.C[i], b.C[i]
		if x.Ref != y.Ref || x.Pin != y.Pin || x.N.Leaf != y.N.Leaf || len(x.N.It) != len(y.N.It) {
			return false
		}
		for j := range x.N.It {
			if x.N.It[j].K != y.N.It[j].K || x.N.It[j].V != y.N.It[j].V {
				return false
			}
		}
	}
	return true
}

// free is Free, worked out apart from it.
func free(h api.Heap) int {
	n := len(h.C)
	for _, c := range h.C {
		if c.Ref != 0 || c.Pin {
			n--
		}
	}
	return n
}

func made(t *testing.T, n, keep int) api.Heap {
	t.Helper()
	h, e := New(n, keep)
	if e != api.OK {
		t.Fatalf("New(%d, %d): %d", n, keep, e)
	}
	return h
}

func laid(t *testing.T, h api.Heap, n api.Node, held ...int) (api.Heap, int) {
	t.Helper()
	x, p, e := Alloc(h, n, held)
	if e != api.OK || p < 0 || p >= len(x.C) {
		t.Fatalf("Alloc of %v: %d, %d", n, p, e)
	}
	return x, p
}

func held(t *testing.T, h api.Heap, p int) api.Heap { t.Helper(); return counted(t, Hold, h, p) }

func loosed(t *testing.T, h api.Heap, p int) api.Heap { t.Helper(); return counted(t, Loose, h, p) }

// counted is a heap behind Hold or Loose of a cell that is used.
func counted(t *testing.T, do func(api.Heap, int) (api.Heap, api.Errno), h api.Heap, p int) api.Heap {
	t.Helper()
	x, e := do(h, p)
	if e != api.OK {
		t.Fatalf("place %d: %d", p, e)
	}
	return x
}

// some is a heap of all there can be: leaves and others, shared and not, cells that wait, and free ones between.
func some() api.Heap {
	return api.Heap{Keep: 2, C: []api.Cell{
		cell(3, leaf(1)),        // 0: told by 1, by 4, and once more
		cell(2, over(0, 3)),     // 1: told by 4, and once more
		{Pin: true},             // 2
		cell(1, leaf(2)),        // 3: told by 1
		cell(1, over(0, 1, 5)),  // 4: told by none of these
		cell(1, over(6, 6, 8)),  // 5: told by 4; tells one twice, and one that is free
		cell(2, leaf(3)),        // 6: told twice by 5
		{},                      // 7
		{},                      // 8
		cell(api.Most, leaf(4)), // 9
		{Pin: true},             // 10
		{},                      // 11
	}}
}

// rights are heaps that are right, some of them at the edges.
func rights() []api.Heap {
	long := make([]api.Cell, 2000)
	full := make([]api.Cell, 2000)
	for i := range full {
		full[i] = cell(1, over(1999, 0, i))
	}
	most := api.Most
	return []api.Heap{
		of(api.Cell{}), of(api.Cell{Pin: true}), of(cell(1, leaf(0))), of(cell(most, leaf(most))), of(cell(1, over(0))),
		{C: make([]api.Cell, 1), Keep: 1}, {C: make([]api.Cell, 3)}, {C: make([]api.Cell, 3), Keep: 3},
		{C: long}, {C: long, Keep: 1}, {C: long, Keep: 2000}, {C: full, Keep: 2000},
		of(api.Cell{N: api.Node{It: []api.Item{}}}),
		// What is told is a cell, whatever its Ref.
		of(cell(1, over(1)), api.Cell{}), of(cell(1, over(1)), api.Cell{Pin: true}), of(cell(7, over(1, 0, 1, 2)), cell(3, over(0)), api.Cell{}),
		// What a leaf tells is no place.
		of(cell(1, api.Node{Leaf: true, It: []api.Item{{K: 0, V: 1}, {K: 5, V: most}, {K: 6, V: 2000}, {K: most, V: 0}}})),
		{C: make([]api.Cell, 10), Keep: 7}, some(),
	}
}

// wrongs are heaps that aren't right, each by one thing.
func wrongs() []api.Heap {
	l := []api.Heap{
		{}, {C: []api.Cell{}}, {Keep: 1}, {C: make([]api.Cell, 2001)}, {C: make([]api.Cell, 2001), Keep: 2001}, {C: make([]api.Cell, 5000)},
		{C: make([]api.Cell, 2), Keep: 3}, {C: make([]api.Cell, 2), Keep: -1}, {C: make([]api.Cell, 2000), Keep: 2001},
	}
	for _, n := range far {
		l = append(l, api.Heap{C: make([]api.Cell, 3), Keep: n})
	}
	five := over(0, 0, 0, 0, 0)
	down := api.Node{It: []api.Item{{K: 2}, {K: 1}}}
	twice := api.Node{Leaf: true, It: []api.Item{{K: 1, V: 1}, {K: 1, V: 2}}}
	cells := []api.Cell{
		cell(1, api.Node{}), cell(1, api.Node{Leaf: true}), cell(1, five), cell(1, down), cell(1, twice), cell(1, leaf(-1)), cell(1, leaf(api.Most+1)),
		{Ref: 1, Pin: true, N: leaf(1)}, {Ref: 2, Pin: true, N: over(0)}, {Ref: 1, Pin: true},
		cell(0, leaf(1)), cell(0, over(0)), cell(0, api.Node{Leaf: true}), {Pin: true, N: leaf(1)}, {Pin: true, N: over(0)}, {Pin: true, N: api.Node{Leaf: true}},
		cell(-1, leaf(1)), {Ref: -1}, cell(math.MinInt, leaf(1)), {Ref: math.MinInt}, cell(-1<<32+1, leaf(1)), {Ref: -1, Pin: true},
		cell(api.Most+1, leaf(1)), cell(1<<32, leaf(1)), cell(1<<32+1, leaf(1)), cell(math.MaxInt, leaf(1)),
	}
	for _, p := range append([]int{3}, far...) {
		cells = append(cells, cell(1, over(p)), cell(1, over(0, 1, 2, p)), cell(1, over(p, 0)))
	}
	for _, c := range cells {
		for at := range 3 {
			h := api.Heap{C: make([]api.Cell, 3)}
			h.C[at] = c
			l = append(l, h)
		}
	}
	return l
}

// P5.1: a heap of free cells.
func TestNew(t *testing.T) {
	for _, x := range [][2]int{{1, 0}, {1, 1}, {2, 0}, {2, 1}, {2, 2}, {5, 2}, {1999, 1999}, {2000, 0}, {2000, 1000}, {2000, 2000}} {
		h, e := New(x[0], x[1])
		if e != api.OK || !same(h, api.Heap{C: make([]api.Cell, x[0]), Keep: x[1]}) {
			t.Errorf("New(%d, %d): %v, %d", x[0], x[1], h, e)
		}
		if !Right(h) || Free(h) != x[0] {
			t.Errorf("New(%d, %d): right %v, free %d", x[0], x[1], Right(h), Free(h))
		}
	}
}

// P5.1: ErrArg, and none, if that isn't right.
func TestNewNone(t *testing.T) {
	l := [][2]int{{0, 0}, {0, 1}, {-1, 0}, {-1, -1}, {2001, 0}, {2001, 2001}, {1, -1}, {1, 2}, {3, 4}, {2000, 2001}}
	for _, n := range far {
		l = append(l, [2]int{5, n})
		if n != 2000 {
			l = append(l, [2]int{n, 0}, [2]int{n, 1}, [2]int{n, n})
		}
	}
	for _, x := range l {
		if h, e := New(x[0], x[1]); e != api.ErrArg || h.C != nil || h.Keep != 0 {
			t.Errorf("New(%d, %d): %d cells, Keep %d, %d", x[0], x[1], len(h.C), h.Keep, e)
		}
	}
}

// P5.1: what is right.
func TestRight(t *testing.T) {
	for i, h := range rights() {
		if !Right(h) {
			t.Errorf("%d: not right", i)
		}
	}
	for i, h := range wrongs() {
		if Right(h) {
			t.Errorf("%d: right: %v", i, h)
		}
	}
}

// P5.1: one thing that isn't right, in the last of all cells, is seen.
func TestRightLast(t *testing.T) {
	for _, x := range []struct {
		c  api.Cell
		ok bool
	}{
		{cell(1, over(1999)), true}, {cell(1, over(2000)), false}, {cell(1, over(0, 1, 2, 1999)), true}, {cell(1, over(0, 1, 2, 2000)), false},
		{cell(api.Most, leaf(1)), true}, {cell(api.Most+1, leaf(1)), false}, {api.Cell{Pin: true}, true}, {cell(0, leaf(1)), false},
	} {
		h := made(t, 2000, 2000)
		h.C[1999] = x.c
		if Right(h) != x.ok {
			t.Errorf("%v: %v", x.c, Right(h))
		}
	}
}

// P5.1: two heaps are the same, if all of them is, right or not.
func TestSame(t *testing.T) {
	l := append(rights(), wrongs()...)
	for i, a := range l {
		for j, b := range l {
			if Same(a, b) != same(a, b) {
				t.Fatalf("%d, %d: Same: %v", i, j, Same(a, b))
			}
		}
		if b := deep(a); !Same(a, b) || !Same(b, a) {
			t.Errorf("%d: not the same as its copy", i)
		}
	}
	if !Same(api.Heap{}, api.Heap{C: []api.Cell{}}) || !Same(of(api.Cell{}), of(api.Cell{N: api.Node{It: []api.Item{}}})) {
		t.Error("no elements: not the same")
	}
}

// P5.1: a heap isn't the same as one that is other in one thing.
func TestNotSame(t *testing.T) {
	for i, change := range []func(x *api.Heap){
		func(x *api.Heap) { x.Keep++ },
		func(x *api.Heap) { x.C = append(x.C, api.Cell{}) },
		func(x *api.Heap) { x.C = x.C[:11] },
		func(x *api.Heap) { x.C = x.C[1:] },
		func(x *api.Heap) { x.C = nil },
		func(x *api.Heap) { x.C[0].Ref++ },
		func(x *api.Heap) { x.C[9].Ref-- },
		func(x *api.Heap) { x.C[10].Pin = false },
		func(x *api.Heap) { x.C[11].Pin = true },
		func(x *api.Heap) { x.C[0].N.Leaf = false },
		func(x *api.Heap) { x.C[4].N.Leaf = true },
		func(x *api.Heap) { x.C[4].N.It[2].V++ },
		func(x *api.Heap) { x.C[4].N.It[0].K++ },
		func(x *api.Heap) { x.C[5].N.It = x.C[5].N.It[:2] },
		func(x *api.Heap) { x.C[9].N.It = nil },
		func(x *api.Heap) { x.C[6], x.C[7] = x.C[7], x.C[6] },
	} {
		x := deep(some())
		change(&x)
		if Same(some(), x) || Same(x, some()) {
			t.Errorf("%d: the same", i)
		}
	}
}

// P5.1: a cell is free, if Ref is 0 and it has no Pin.
func TestFree(t *testing.T) {
	for i, h := range rights() {
		if Free(h) != free(h) {
			t.Errorf("%d: Free: %d, not %d", i, Free(h), free(h))
		}
	}
	if n := Free(some()); n != 3 {
		t.Errorf("Free: %d, not 3", n)
	}
}

// P5.1: is n no more than are free, less Keep, unless deep?
func TestFits(t *testing.T) {
	for i, h := range rights() {
		all := []int{math.MinInt, -2000, -3, -2, -1, 0, 1, 2, 3, 4, 1999, 2000, 2001, math.MaxInt}
		all = append(all, free(h)-1, free(h), free(h)+1, free(h)-h.Keep-1, free(h)-h.Keep, free(h)-h.Keep+1)
		for _, n := range all {
			if Fits(h, n, true) != (n <= free(h)) {
				t.Errorf("%d: Fits(%d, deep): %v", i, n, Fits(h, n, true))
			}
			if Fits(h, n, false) != (n <= free(h)-h.Keep) {
				t.Errorf("%d: Fits(%d): %v", i, n, Fits(h, n, false))
			}
		}
	}
	// Fewer are free than are kept.
	h := api.Heap{C: []api.Cell{cell(1, leaf(1)), {}, {Pin: true}}, Keep: 3}
	if Fits(h, 0, false) || Fits(h, -1, false) || !Fits(h, -2, false) || !Fits(h, 1, true) || Fits(h, 2, true) {
		t.Error("fewer are free than are kept")
	}
}

// The chapter's example: of two free cells and Keep 1 one node fits, not two; deep two.
func TestExample(t *testing.T) {
	h := made(t, 2, 1)
	if !Fits(h, 1, false) || Fits(h, 2, false) || !Fits(h, 2, true) || Fits(h, 3, true) {
		t.Error("Fits")
	}
}

// P5.2: the first free cell gets the node, and Ref 1; all else stays.
func TestAllocLeaf(t *testing.T) {
	for i, n := range []api.Node{leaf(0), leaf(api.Most), {Leaf: true, It: []api.Item{{K: 0, V: 3}, {K: 1, V: 0}, {K: 2, V: 9}, {K: 3, V: 2000}}}} {
		for _, h := range []api.Heap{some(), made(t, 1, 1), made(t, 2000, 0)} {
			want, at := deep(h), 0
			for want.C[at].Ref > 0 || want.C[at].Pin {
				at++
			}
			want.C[at] = cell(1, n)
			// Of a leaf nothing is told, be it held or not.
			for _, l := range [][]int{nil, {}, {0, 3, 9}} {
				if x, p, e := Alloc(h, n, l); e != api.OK || p != at || !same(x, want) {
					t.Errorf("%d: Alloc: %d, %d: %v", i, p, e, x)
				}
			}
		}
	}
}

// P5.2: what waits isn't free; cells are laid in order of their places.
func TestAllocFirst(t *testing.T) {
	h := some()
	for _, want := range []int{7, 8, 11} {
		var p int
		if h, p = laid(t, h, leaf(p)); p != want {
			t.Fatalf("laid at %d, not %d", p, want)
		}
	}
	if x, p, e := Alloc(h, leaf(1), nil); e != api.ErrFull || p != 0 || !same(x, h) {
		t.Errorf("Alloc: %d, %d", p, e)
	}
	h = loosed(t, loosed(t, h, 11), 7)
	if x, p, e := Alloc(h, leaf(1), nil); e != api.ErrFull || p != 0 || !same(x, h) {
		t.Errorf("Alloc, where two wait: %d, %d", p, e)
	}
	if _, p := laid(t, Settle(h), leaf(5)); p != 2 {
		t.Errorf("laid at %d, not 2", p)
	}
}

// P5.2: Keep doesn't keep a node from being laid.
func TestAllocKept(t *testing.T) {
	h := made(t, 3, 3)
	for i := range 3 {
		var p int
		if h, p = laid(t, h, leaf(i)); p != i || h.Keep != 3 {
			t.Fatalf("laid at %d, Keep %d", p, h.Keep)
		}
	}
}

// P5.2: each of the items' cells gets one Ref more, but those that are held.
func TestAllocOver(t *testing.T) {
	for i, x := range []struct {
		at, held []int
		more     map[int]int
	}{
		{[]int{0}, nil, map[int]int{0: 1}},
		{[]int{0}, []int{}, map[int]int{0: 1}},
		{[]int{0}, []int{0}, nil},
		{[]int{0}, []int{1, 3, 7, -1, 5000}, map[int]int{0: 1}},
		{[]int{0, 1, 3, 4}, nil, map[int]int{0: 1, 1: 1, 3: 1, 4: 1}},
		{[]int{0, 1, 3, 4}, []int{1}, map[int]int{0: 1, 3: 1, 4: 1}},
		{[]int{0, 1, 3, 4}, []int{4, 0}, map[int]int{1: 1, 3: 1}},
		{[]int{4, 3, 1, 0}, []int{0, 1, 3, 4}, nil},
		{[]int{4, 3}, []int{3, 3, 3}, map[int]int{4: 1}},
		{[]int{6, 6}, nil, map[int]int{6: 2}},
		{[]int{6, 0, 6, 6}, nil, map[int]int{6: 3, 0: 1}},
		{[]int{6, 0, 6, 6}, []int{6}, map[int]int{0: 1}},
	} {
		want := deep(some())
		for p, n := range x.more {
			want.C[p].Ref += n
		}
		want.C[7] = cell(1, over(x.at...))
		if got, p, e := Alloc(some(), over(x.at...), x.held); e != api.OK || p != 7 || !same(got, want) {
			t.Errorf("%d: Alloc of %v, held %v: %d, %d: %v", i, x.at, x.held, p, e, got)
		}
	}
}

// P5.2: ErrArg, and the heap and 0, at a node that isn't right, or one over what is no cell with a Ref; ahead of ErrFull.
func TestAllocArg(t *testing.T) {
	five := api.Node{Leaf: true, It: []api.Item{{K: 1}, {K: 2}, {K: 3}, {K: 4}, {K: 5}}}
	l := []api.Node{
		{}, {Leaf: true}, five, over(0, 0, 0, 0, 0), leaf(-1), leaf(api.Most + 1),
		{Leaf: true, It: []api.Item{{K: 2}, {K: 1}}}, {It: []api.Item{{K: 2}, {K: 2}}}, {It: []api.Item{{K: -1, V: 0}}},
		// Free ones, ones that wait, and what is no cell.
		over(7), over(8), over(11), over(2), over(10), over(12), over(0, 12), over(7, 0), over(0, 1, 3, 2),
	}
	for _, p := range far {
		l = append(l, over(p), over(0, p), over(0, 1, 3, p))
	}
	full := some()
	for _, p := range []int{7, 8, 11} {
		full.C[p] = api.Cell{Pin: true}
	}
	for i, n := range l {
		for _, h := range []api.Heap{some(), full} {
			was := deep(h)
			// Held or not: what is told must be there.
			for _, hold := range [][]int{nil, {0, 2, 7, 8, 10, 11, 12}} {
				if x, p, e := Alloc(h, n, hold); e != api.ErrArg || p != 0 || !same(x, was) {
					t.Errorf("%d: Alloc of %v: %d, %d", i, n, p, e)
				}
			}
		}
	}
	for _, n := range []api.Node{leaf(1), over(0), over(9, 1)} {
		if x, p, e := Alloc(full, n, []int{9}); e != api.ErrFull || p != 0 || !same(x, full) {
			t.Errorf("Alloc of %v, where nothing is free: %d, %d", n, p, e)
		}
	}
}

// P5.2: all 2000 cells can be laid, and not one more.
func TestAllocAll(t *testing.T) {
	h := made(t, 2000, 0)
	for i := range 2000 {
		n := leaf(i)
		if i > 0 {
			n = over(0, i-1)
		}
		var p int
		if h, p = laid(t, h, n); p != i {
			t.Fatalf("laid at %d, not %d", p, i)
		}
	}
	if x, p, e := Alloc(h, leaf(1), nil); e != api.ErrFull || p != 0 || !same(x, h) || Free(h) != 0 || !Right(h) {
		t.Errorf("one more: %d, %d", p, e)
	}
	if h.C[0].Ref != 2001 || h.C[1].Ref != 2 || h.C[1998].Ref != 2 || h.C[1999].Ref != 1 {
		t.Errorf("Refs: %d, %d, %d, %d", h.C[0].Ref, h.C[1].Ref, h.C[1998].Ref, h.C[1999].Ref)
	}
}

// P5.3: Hold: one Ref more, of that cell alone.
func TestHold(t *testing.T) {
	for _, p := range []int{0, 1, 3, 4, 5, 6} {
		want := deep(some())
		want.C[p].Ref++
		if x, e := Hold(some(), p); e != api.OK || !same(x, want) {
			t.Errorf("Hold(%d): %d: %v", p, e, x)
		}
	}
	h := of(cell(api.Most-1, leaf(1)))
	if x, e := Hold(h, 0); e != api.OK || x.C[0].Ref != api.Most || !Right(x) {
		t.Errorf("Hold: %d: %v", e, x)
	}
}

// P5.3: ErrNone, and the heap, if it is no cell with a Ref above 0.
func TestNone(t *testing.T) {
	h := some()
	for _, p := range append([]int{2, 7, 8, 10, 11, 12, 13}, far...) {
		if x, e := Hold(h, p); e != api.ErrNone || !same(x, some()) {
			t.Errorf("Hold(%d): %d", p, e)
		}
		if x, e := Loose(h, p); e != api.ErrNone || !same(x, some()) {
			t.Errorf("Loose(%d): %d", p, e)
		}
	}
}

// P5.3: one Ref less; if that is 0 then, no node, a Pin, and what the items told is loosed likewise.
func TestLoose(t *testing.T) {
	gone := api.Cell{Pin: true}
	for _, x := range []struct {
		p      int
		change func(c []api.Cell)
	}{
		{0, func(c []api.Cell) { c[0].Ref = 2 }},
		{1, func(c []api.Cell) { c[1].Ref = 1 }},
		{3, func(c []api.Cell) { c[3] = gone }},
		{4, func(c []api.Cell) { c[4], c[5], c[6] = gone, gone, gone; c[0].Ref = 2; c[1].Ref = 1 }},
		{5, func(c []api.Cell) { c[5], c[6] = gone, gone }},
		{6, func(c []api.Cell) { c[6].Ref = 1 }},
		{9, func(c []api.Cell) { c[9].Ref = api.Most - 1 }},
	} {
		want := deep(some())
		x.change(want.C)
		if got, e := Loose(some(), x.p); e != api.OK || !same(got, want) {
			t.Errorf("Loose(%d): %d: %v", x.p, e, got)
		}
	}
}

// P5.3: what a leaf tells is no place: it isn't loosed.
func TestLooseLeaf(t *testing.T) {
	h := of(cell(1, api.Node{Leaf: true, It: []api.Item{{K: 1, V: 0}, {K: 2, V: 1}, {K: 3, V: 2}, {K: 4, V: 3}}}), cell(1, leaf(1)), cell(1, over(1)))
	want := deep(h)
	want.C[0] = api.Cell{Pin: true}
	if x, e := Loose(h, 0); e != api.OK || !same(x, want) {
		t.Errorf("Loose: %d: %v", e, x)
	}
}

// P5.3: what has Ref 0 isn't loosed: free, or waiting, or gone a moment ago, in a ring too.
func TestLooseNought(t *testing.T) {
	gone := api.Cell{Pin: true}
	for i, x := range []struct {
		h    api.Heap
		p    int
		want []api.Cell
	}{
		{of(cell(1, over(1, 2)), api.Cell{}, gone), 0, []api.Cell{gone, {}, gone}},
		{of(cell(1, over(0))), 0, []api.Cell{gone}},
		{of(cell(2, over(0))), 0, []api.Cell{cell(1, over(0))}},
		{of(cell(1, over(1)), cell(1, over(0))), 0, []api.Cell{gone, gone}},
		{of(cell(1, over(1)), cell(1, over(2)), cell(1, over(0, 1, 2))), 1, []api.Cell{gone, gone, gone}},
		{of(cell(1, over(1)), cell(2, over(0))), 0, []api.Cell{gone, cell(1, over(0))}},
		{of(cell(1, over(1, 1, 1)), cell(1, leaf(1))), 0, []api.Cell{gone, gone}},
		{of(cell(1, over(1, 1, 1)), cell(4, leaf(1))), 0, []api.Cell{gone, cell(1, leaf(1))}},
		{of(cell(1, over(1, 2)), cell(1, over(2)), cell(3, leaf(1))), 0, []api.Cell{gone, gone, cell(1, leaf(1))}},
	} {
		if got, e := Loose(x.h, x.p); e != api.OK || !same(got, of(x.want...)) {
			t.Errorf("%d: Loose(%d): %d: %v", i, x.p, e, got)
		}
	}
}

// P5.3: as many below one another as there are cells.
func TestLooseLong(t *testing.T) {
	h := made(t, 2000, 1000)
	h, p := laid(t, h, leaf(1))
	for range 1999 {
		h, p = laid(t, h, over(p), p)
	}
	stays := loosed(t, held(t, h, p), p)
	if !same(stays, h) {
		t.Error("one that is held is loosed")
	}
	half := held(t, h, 999)
	for i, c := range loosed(t, half, p).C {
		if want := half.C[i]; i < 999 && c.Ref != want.Ref || i == 999 && c.Ref != 1 || i > 999 && (c.Ref != 0 || !c.Pin) {
			t.Fatalf("%d: Ref %d", i, c.Ref)
		}
	}
	for i, c := range loosed(t, h, p).C {
		if c.Ref != 0 || !c.Pin || len(c.N.It) != 0 || c.N.Leaf {
			t.Fatalf("%d: %v", i, c)
		}
	}
}

// P5.4: without any Pin; all else stays.
func TestSettle(t *testing.T) {
	want := deep(some())
	want.C[2].Pin, want.C[10].Pin = false, false
	if x := Settle(some()); !same(x, want) || Free(x) != 5 {
		t.Errorf("Settle: %v", x)
	}
	for i, h := range rights() {
		want := deep(h)
		for p := range want.C {
			want.C[p].Pin = false
		}
		x := Settle(h)
		if !same(x, want) || !Right(x) || !same(Settle(x), x) {
			t.Errorf("%d: Settle: %v", i, x)
		}
	}
	all := made(t, 2000, 5)
	for p := range all.C {
		all.C[p].Pin = true
	}
	if x := Settle(all); !same(x, made(t, 2000, 5)) {
		t.Error("all wait: Settle")
	}
}

// P5.5: what was held is loosed again as it was, but for a Pin.
func TestHeldAndLoosed(t *testing.T) {
	for _, h := range []api.Heap{some(), Settle(some())} {
		for p, c := range h.C {
			if c.Ref == 0 || c.Ref == api.Most {
				continue
			}
			if x := loosed(t, held(t, h, p), p); !same(x, h) {
				t.Errorf("%d: %v", p, x)
			}
		}
		for _, n := range []api.Node{leaf(3), over(0), over(6, 6, 6), over(5, 4, 1, 3)} {
			x, p := laid(t, h, n)
			want := deep(h)
			want.C[p].Pin = true
			if x = loosed(t, x, p); !same(x, want) {
				t.Errorf("%v: %v", n, x)
			}
		}
	}
}

// P5.5: a leaf that is made, and loosed, is free behind the next commit, and not ahead of it.
func TestMadeAndLoosed(t *testing.T) {
	h := made(t, 2, 0)
	x, p := laid(t, h, leaf(1))
	x = loosed(t, x, p)
	if Free(x) != 1 || !x.C[p].Pin || !same(Settle(x), h) {
		t.Errorf("%v", x)
	}
	if _, q := laid(t, x, leaf(2)); q == p {
		t.Error("laid where a cell waits")
	}
}

// loose is Loose, worked out apart from it: what is to be loosed yet waits in a list, and not by depth.
func loose(h api.Heap, p int) api.Heap {
	h = deep(h)
	for yet := []int{p}; len(yet) > 0; yet = yet[1:] {
		c := &h.C[yet[0]]
		if c.Ref == 0 {
			continue
		}
		if c.Ref--; c.Ref > 0 {
			continue
		}
		for _, x := range c.N.It {
			if !c.N.Leaf {
				yet = append(yet, x.V)
			}
		}
		*c = api.Cell{Pin: true}
	}
	return h
}

// alloc is Alloc of a node over these places (a leaf, of none), worked out apart from it.
func alloc(h api.Heap, at, hold []int) (api.Heap, int) {
	h = deep(h)
	n := leaf(1)
	if len(at) > 0 {
		n = over(at...)
	}
	for p, c := range h.C {
		if c.Ref > 0 || c.Pin {
			continue
		}
		for _, q := range at {
			if !slices.Contains(hold, q) {
				h.C[q].Ref++
			}
		}
		h.C[p] = cell(1, n)
		return h, p
	}
	return h, -1
}

// P5.2 to P5.5: long rows of calls, each held against what was worked out apart; all that comes out is right.
func TestRow(t *testing.T) {
	for seed := range 40 {
		x := uint64(seed)*2654435761 + 12345
		pick := func(n int) int {
			x = x*6364136223846793005 + 1442695040888963407
			return int(x>>33) % n
		}
		size := 1 + pick(30)
		h := made(t, size, pick(size+1))
		for i := range 400 {
			var used []int
			for p, c := range h.C {
				if c.Ref > 0 {
					used = append(used, p)
				}
			}
			was, want, e := deep(h), deep(h), api.OK
			next := h
			switch do := pick(10); {
			case do < 5:
				var at, hold []int
				for range min(pick(5), len(used)) {
					at = append(at, used[pick(len(used))])
					if pick(3) == 0 {
						hold = append(hold, at[pick(len(at))])
					}
				}
				n := leaf(1)
				if len(at) > 0 {
					n = over(at...)
				}
				var p, at0 int
				next, p, e = Alloc(h, n, hold)
				if want, at0 = alloc(h, at, hold); at0 < 0 && (e != api.ErrFull || p != 0) || at0 >= 0 && (e != api.OK || p != at0) {
					t.Fatalf("%d, %d: Alloc: %d, %d, not %d", seed, i, p, e, at0)
				}
			case do < 6 && len(used) > 0:
				p := used[pick(len(used))]
				next = held(t, h, p)
				want.C[p].Ref++
			case do < 9 && len(used) > 0:
				p := used[pick(len(used))]
				next = loosed(t, h, p)
				want = loose(h, p)
			case do == 9:
				next = Settle(h)
				for p := range want.C {
					want.C[p].Pin = false
				}
			}
			if !same(next, want) || !same(h, was) || !Right(next) || Free(next) != free(want) {
				t.Fatalf("%d, %d: %v, not %v; right %v", seed, i, next, want, Right(next))
			}
			h = next
		}
	}
}

// R1: no call panics, and all end, at heaps that aren't right too.
func TestEnds(t *testing.T) {
	l := append(wrongs(), of(cell(math.MaxInt, over(0)), cell(1, over(-5, 9, 1, 0))), api.Heap{C: []api.Cell{{Ref: 1, Pin: true, N: over(0, 0)}}, Keep: math.MinInt})
	for _, h := range l {
		Free(h)
		Settle(h)
		for _, p := range append([]int{0, 1, 2}, far...) {
			Fits(h, p, false)
			Fits(h, p, true)
			Hold(h, p)
			Loose(h, p)
			Alloc(h, over(p), []int{p})
			Alloc(h, api.Node{Leaf: true, It: []api.Item{{K: p, V: p}}}, nil)
		}
	}
}

// R3: what is handed in isn't written into, not even behind its end.
func TestHandedIn(t *testing.T) {
	whole := append(deep(some()).C, cell(5, leaf(5)), api.Cell{Pin: true})
	h := api.Heap{C: whole[:12], Keep: 2}
	items := append(over(0, 1).It, api.Item{K: 90, V: 91}, api.Item{K: 92, V: 93})
	n := api.Node{It: items[:2]}
	hold := []int{1, 0, 7}
	was, wasItems := deep(of(whole...)), slices.Clone(items)
	for _, p := range []int{0, 1, 3, 4, 5, 6, 9, 2, 7, -1, 12, 13} {
		Hold(h, p)
		Loose(h, p)
	}
	for _, l := range [][]int{nil, hold, hold[:1]} {
		Alloc(h, n, l)
		Alloc(h, api.Node{Leaf: true, It: items[:2]}, l)
	}
	Settle(h)
	Right(h)
	Same(h, h)
	if !same(of(whole...), was) || !slices.Equal(items, wasItems) || !slices.Equal(hold, []int{1, 0, 7}) {
		t.Error("what was handed in is changed")
	}
}

// R3: a node's items, written into behind the call, change no heap; what is put behind a cell's items changes no other heap's.
func TestNotKept(t *testing.T) {
	n := api.Node{Leaf: true, It: []api.Item{{K: 1, V: 1}, {K: 2, V: 2}, {K: 3, V: 3}}}
	h, p := laid(t, made(t, 3, 0), n)
	n.It[0] = api.Item{K: 7, V: 7}
	if h.C[p].N.It[0] != (api.Item{K: 1, V: 1}) {
		t.Error("the node is kept")
	}
	x := held(t, h, p)
	one := append(h.C[p].N.It, api.Item{K: 8, V: 8})
	_ = append(x.C[p].N.It, api.Item{K: 9, V: 9})
	if one[3].K != 8 {
		t.Error("two heaps have the room behind a node's items")
	}
}

// R3: who writes into the cells that came out changes neither what was handed in nor another answer.
func TestAnswersAreTheirOwn(t *testing.T) {
	h := some()
	for i, do := range []func() api.Heap{
		func() api.Heap { x, _, _ := Alloc(h, leaf(1), nil); return x },
		func() api.Heap { x, _, _ := Alloc(h, over(0, 1), []int{1}); return x },
		func() api.Heap { x, _ := Hold(h, 0); return x },
		func() api.Heap { x, _ := Loose(h, 4); return x },
		func() api.Heap { return Settle(h) },
		func() api.Heap { return Settle(Settle(h)) },
		func() api.Heap { x, _ := New(5, 5); return x },
	} {
		one, two := do(), do()
		want := deep(two)
		// R4: the same answer each time.
		if !same(one, two) {
			t.Errorf("%d: two answers", i)
		}
		for p := range one.C {
			one.C[p] = cell(-7, leaf(-7))
		}
		if !same(two, want) || !same(h, some()) {
			t.Errorf("%d: one answer changes what was handed in, or another one", i)
		}
	}
}
