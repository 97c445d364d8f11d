package audit

import (
	"math"
	"slices"
	"testing"

	"assart/api"
	"assart/heap"
	"assart/todo"
	"assart/tree"
)

// far are numbers that are no places of the heaps here, but -1.
var far = []int{math.MinInt, math.MinInt + 1, -1 << 32, -1 << 31, -2001, -2000, -2, 2000, 2001, 4000, 1 << 31, 1 << 32, math.MaxInt - 1, math.MaxInt}

// leaf is a cell with a leaf of one item, which tells the place of another cell, as it seems.
func leaf(ref, k int) api.Cell {
	return api.Cell{Ref: ref, N: api.Node{Leaf: true, It: []api.Item{{K: k, V: 0}}}}
}

// over is a cell with a node that is no leaf, of these keys and places in turn.
func over(ref int, kp ...int) api.Cell {
	c := api.Cell{Ref: ref}
	for i := 0; i+1 < len(kp); i += 2 {
		c.N.It = append(c.N.It, api.Item{K: kp[i], V: kp[i+1]})
	}
	return c
}

func of(c ...api.Cell) api.Heap { return api.Heap{C: c} }

// refd is a heap with these Refs instead of its own, from the first cell on.
func refd(h api.Heap, refs ...int) api.Heap {
	h.C = slices.Clone(h.C)
	for p, n := range refs {
		h.C[p].Ref = n
	}
	return h
}

// deep is a heap's copy, in memory of its own.
func deep(h api.Heap) api.Heap {
	h.C = slices.Clone(h.C)
	for i := range h.C {
		h.C[i].N.It = slices.Clone(h.C[i].N.It)
	}
	return h
}

// some is a heap of leaves at 0 to 3 and nodes over them, free cells, and one that waits. What its Refs are, each test says.
func some() api.Heap {
	return of(
		leaf(1, 1),                      // 0
		leaf(1, 2),                      // 1
		leaf(1, 3),                      // 2
		leaf(1, 4),                      // 3
		over(1, 1, 0, 2, 1),             // 4
		over(1, 3, 2, 4, 3),             // 5
		over(1, 1, 4, 3, 5),             // 6: over all four
		over(1, 1, 0, 2, 1, 3, 2),       // 7
		over(1, 1, 0, 2, 1, 3, 2, 4, 3), // 8
		api.Cell{},                      // 9
		api.Cell{Pin: true},             // 10
	)
}

// given is Given, worked out apart from it: one number of steps after the other is looked for, the greatest first.
func given(l []complex128, p int) int {
	for k := 4; k > 0; k-- {
		if slices.Contains(l, complex(float64(p), float64(k+1))) {
			return k
		}
	}
	return 0
}

// refers: does the i-th item of the node at p tell a cell, and isn't given back?
func refers(h api.Heap, l []complex128, p, i int) bool { return !h.C[p].N.Leaf && i >= given(l, p) }

// refs is Refs, worked out apart from it: of one cell after the other, by all that may refer to it.
func refs(h api.Heap, roots []int, l []complex128) []int {
	all := make([]int, len(h.C))
	for q := range h.C {
		for _, r := range roots {
			if r == q {
				all[q]++
			}
		}
		for _, t := range l {
			if real(t) == float64(q) {
				all[q]++
			}
		}
		for p, c := range h.C {
			for i, x := range c.N.It {
				if c.Ref > 0 && x.V == q && refers(h, l, p, i) {
					all[q]++
				}
			}
		}
	}
	return all
}

// held is Held, worked out apart from it: gone through again and again, until no cell comes to it.
func held(h api.Heap, roots []int, l []complex128) []bool {
	all := make([]bool, len(h.C))
	for q := range h.C {
		all[q] = slices.Contains(roots, q) || slices.ContainsFunc(l, func(t complex128) bool { return real(t) == float64(q) })
	}
	for more := true; more; {
		more = false
		for p, c := range h.C {
			for i, x := range c.N.It {
				if all[p] && refers(h, l, p, i) && !all[x.V] {
					all[x.V], more = true, true
				}
			}
		}
	}
	return all
}

// sound is Sound, worked out apart from it.
func sound(h api.Heap, roots []int, l []complex128) bool {
	n, is := refs(h, roots, l), held(h, roots, l)
	for p, c := range h.C {
		if c.Ref != n[p] || (c.Ref > 0) != is[p] {
			return false
		}
	}
	return true
}

// spoken: are these such as the chapter's words ask?
func spoken(h api.Heap, roots []int, l []complex128) bool {
	if !heap.Right(h) || !todo.Right(l, len(h.C)) {
		return false
	}
	for _, r := range roots {
		if !tree.Right(h, r) {
			return false
		}
	}
	for _, t := range l {
		p := int(real(t))
		c := h.C[p]
		if imag(t) == 0 && !tree.Right(h, p) || imag(t) > 0 && (c.Ref != 1 || c.N.Leaf) {
			return false
		}
		for i, x := range c.N.It {
			if imag(t) > 0 && refers(h, l, p, i) && !tree.Right(h, x.V) {
				return false
			}
		}
	}
	return true
}

// holds holds all calls against what was worked out apart.
func holds(t *testing.T, h api.Heap, roots []int, l []complex128) {
	t.Helper()
	if !spoken(h, roots, l) {
		t.Fatalf("the chapter doesn't speak of %v, roots %v, tasks %v", h, roots, l)
	}
	if got, want := Refs(h, roots, l), refs(h, roots, l); !slices.Equal(got, want) {
		t.Fatalf("%v, roots %v, tasks %v: Refs %v, not %v", h, roots, l, got, want)
	}
	if got, want := Held(h, roots, l), held(h, roots, l); !slices.Equal(got, want) {
		t.Fatalf("%v, roots %v, tasks %v: Held %v, not %v", h, roots, l, got, want)
	}
	if got, want := Sound(h, roots, l), sound(h, roots, l); got != want {
		t.Fatalf("%v, roots %v, tasks %v: Sound %v", h, roots, l, got)
	}
	for p := range h.C {
		if got, want := Given(l, p), given(l, p); got != want {
			t.Fatalf("tasks %v: Given of %d: %d, not %d", l, p, got, want)
		}
	}
}

// P8.1: the greatest number of steps of tasks at a place, less 1; 0, if that is below 0, or there is no task.
func TestGiven(t *testing.T) {
	for _, x := range []struct {
		l    []complex128
		p    int
		want int
	}{
		{nil, 0, 0}, {nil, -1, 0}, {[]complex128{}, 3, 0},
		{[]complex128{3}, 3, 0}, {[]complex128{3 + 1i}, 3, 0}, {[]complex128{3 + 2i}, 3, 1}, {[]complex128{3 + 3i}, 3, 2}, {[]complex128{3 + 4i}, 3, 3}, {[]complex128{3 + 5i}, 3, 4},
		{[]complex128{3 + 5i}, 2, 0}, {[]complex128{3 + 5i}, 4, 0}, {[]complex128{3 + 5i}, 5, 0}, {[]complex128{3 + 5i}, 0, 0}, {[]complex128{3 + 5i}, -1, 0}, {[]complex128{3 + 5i}, 2000, 0},
		{[]complex128{0}, 0, 0}, {[]complex128{2i}, 0, 1}, {[]complex128{1999 + 5i}, 1999, 4}, {[]complex128{256 + 5i, 3 + 2i}, 0, 0},
		{[]complex128{3 + 2i, 3 + 4i, 2}, 3, 3}, {[]complex128{3 + 4i, 3 + 2i, 2}, 3, 3}, {[]complex128{3, 2 + 5i, 3 + 2i, 3 + 1i}, 3, 1}, {[]complex128{3 + 3i, 3 + 3i}, 3, 2}, {[]complex128{3, 3, 3}, 3, 0}, {[]complex128{3 + 1i, 3, 3 + 1i}, 3, 0},
		{[]complex128{2 + 5i, 3 + 2i, 4 + 4i}, 3, 1}, {[]complex128{2 + 5i, 3 + 2i, 4 + 4i}, 4, 3}, {[]complex128{2 + 5i, 3 + 2i, 4 + 4i}, 2, 4},
	} {
		if got := Given(x.l, x.p); got != x.want {
			t.Errorf("tasks %v: Given of %d: %d, not %d", x.l, x.p, got, x.want)
		}
	}
	for p := range 2000 {
		for k := range 6 {
			l := []complex128{complex(float64(p), float64(k))}
			if got := Given(l, p); got != max(k-1, 0) || Given(l, p+1) != 0 || Given(l, p-1) != 0 {
				t.Fatalf("%v: %d", l, got)
			}
		}
	}
}

// P8.1: Given of many tasks, wherever the one with the most steps stands.
func TestGivenMany(t *testing.T) {
	for at := range 500 {
		l := make([]complex128, 500)
		for i := range l {
			l[i] = complex(float64(i%7), float64(i%3))
		}
		l[at] = 5 + 4i
		if got := Given(l, 5); got != 3 {
			t.Fatalf("at %d: %d", at, got)
		}
	}
}

// P8.1, P8.2: what refers to each cell, what is held, and whether it adds up with the heap's Refs, worked out by hand.
func TestSome(t *testing.T) {
	for i, x := range []struct {
		roots []int
		l     []complex128
		ref   [9]int // the Refs of 0 to 8 that the heap has; of those that are 0, no node
		refs  [9]int // and that Refs tells
		held  [9]int // 1, of those that are held
		ok    bool
	}{
		// No roots and no tasks; and roots of no trees.
		{nil, nil, [9]int{}, [9]int{}, [9]int{}, true},
		{[]int{-1}, nil, [9]int{}, [9]int{}, [9]int{}, true},
		{[]int{-1, -1, -1}, []complex128{}, [9]int{}, [9]int{}, [9]int{}, true},
		{nil, nil, [9]int{1}, [9]int{}, [9]int{}, false},
		{[]int{-1}, nil, [9]int{1}, [9]int{}, [9]int{}, false},
		// A leaf, and what it tells is no place; the same root twice.
		{[]int{0}, nil, [9]int{1}, [9]int{1}, [9]int{1}, true},
		{[]int{2}, nil, [9]int{0, 0, 1}, [9]int{0, 0, 1}, [9]int{0, 0, 1}, true},
		{[]int{2, 2}, nil, [9]int{0, 0, 2}, [9]int{0, 0, 2}, [9]int{0, 0, 1}, true},
		{[]int{2, -1, 2, -1, 2}, nil, [9]int{0, 0, 3}, [9]int{0, 0, 3}, [9]int{0, 0, 1}, true},
		{[]int{2, 2}, nil, [9]int{0, 0, 1}, [9]int{0, 0, 2}, [9]int{0, 0, 1}, false},
		{[]int{2}, nil, [9]int{0, 0, 2}, [9]int{0, 0, 1}, [9]int{0, 0, 1}, false},
		// A tree, and cells that several items tell.
		{[]int{6}, nil, [9]int{1, 1, 1, 1, 1, 1, 1}, [9]int{1, 1, 1, 1, 1, 1, 1}, [9]int{1, 1, 1, 1, 1, 1, 1}, true},
		{[]int{8, 6}, nil, [9]int{2, 2, 2, 2, 1, 1, 1, 0, 1}, [9]int{2, 2, 2, 2, 1, 1, 1, 0, 1}, [9]int{1, 1, 1, 1, 1, 1, 1, 0, 1}, true},
		{[]int{7, 4, 5, 4}, nil, [9]int{2, 2, 2, 1, 2, 1, 0, 1}, [9]int{2, 2, 2, 1, 2, 1, 0, 1}, [9]int{1, 1, 1, 1, 1, 1, 0, 1}, true},
		{[]int{6, 4, 0}, nil, [9]int{2, 1, 1, 1, 2, 1, 1}, [9]int{2, 1, 1, 1, 2, 1, 1}, [9]int{1, 1, 1, 1, 1, 1, 1}, true},
		// A task of which no step is done, and one more step of which no item is given back; several at one place; one at a root.
		{nil, []complex128{6}, [9]int{1, 1, 1, 1, 1, 1, 1}, [9]int{1, 1, 1, 1, 1, 1, 1}, [9]int{1, 1, 1, 1, 1, 1, 1}, true},
		{nil, []complex128{6 + 1i}, [9]int{1, 1, 1, 1, 1, 1, 1}, [9]int{1, 1, 1, 1, 1, 1, 1}, [9]int{1, 1, 1, 1, 1, 1, 1}, true},
		{nil, []complex128{3}, [9]int{0, 0, 0, 1}, [9]int{0, 0, 0, 1}, [9]int{0, 0, 0, 1}, true},
		{nil, []complex128{3, 3, 3}, [9]int{0, 0, 0, 3}, [9]int{0, 0, 0, 3}, [9]int{0, 0, 0, 1}, true},
		{[]int{4}, []complex128{4, 4}, [9]int{1, 1, 0, 0, 3}, [9]int{1, 1, 0, 0, 3}, [9]int{1, 1, 0, 0, 1}, true},
		{[]int{4}, []complex128{4, 4}, [9]int{1, 1, 0, 0, 2}, [9]int{1, 1, 0, 0, 3}, [9]int{1, 1, 0, 0, 1}, false},
		{nil, []complex128{6, 6 + 1i}, [9]int{1, 1, 1, 1, 1, 1, 1}, [9]int{1, 1, 1, 1, 1, 1, 2}, [9]int{1, 1, 1, 1, 1, 1, 1}, false},
		// More steps: the first items are given back, and what they told is held by others, or by none.
		{nil, []complex128{8 + 2i}, [9]int{0, 1, 1, 1, 0, 0, 0, 0, 1}, [9]int{0, 1, 1, 1, 0, 0, 0, 0, 1}, [9]int{0, 1, 1, 1, 0, 0, 0, 0, 1}, true},
		{nil, []complex128{8 + 3i}, [9]int{0, 0, 1, 1, 0, 0, 0, 0, 1}, [9]int{0, 0, 1, 1, 0, 0, 0, 0, 1}, [9]int{0, 0, 1, 1, 0, 0, 0, 0, 1}, true},
		{nil, []complex128{8 + 4i}, [9]int{0, 0, 0, 1, 0, 0, 0, 0, 1}, [9]int{0, 0, 0, 1, 0, 0, 0, 0, 1}, [9]int{0, 0, 0, 1, 0, 0, 0, 0, 1}, true},
		{nil, []complex128{8 + 5i}, [9]int{8: 1}, [9]int{8: 1}, [9]int{8: 1}, true},
		{nil, []complex128{0, 8 + 2i}, [9]int{1, 1, 1, 1, 0, 0, 0, 0, 1}, [9]int{1, 1, 1, 1, 0, 0, 0, 0, 1}, [9]int{1, 1, 1, 1, 0, 0, 0, 0, 1}, true},
		{[]int{4}, []complex128{8 + 3i}, [9]int{1, 1, 1, 1, 1, 0, 0, 0, 1}, [9]int{1, 1, 1, 1, 1, 0, 0, 0, 1}, [9]int{1, 1, 1, 1, 1, 0, 0, 0, 1}, true},
		{nil, []complex128{8 + 2i}, [9]int{1, 1, 1, 1, 0, 0, 0, 0, 1}, [9]int{0, 1, 1, 1, 0, 0, 0, 0, 1}, [9]int{0, 1, 1, 1, 0, 0, 0, 0, 1}, false},
		{nil, []complex128{8 + 1i, 8 + 3i}, [9]int{0, 0, 1, 1, 0, 0, 0, 0, 1}, [9]int{0, 0, 1, 1, 0, 0, 0, 0, 2}, [9]int{0, 0, 1, 1, 0, 0, 0, 0, 1}, false},
		// More steps than there are items.
		{nil, []complex128{4 + 3i}, [9]int{4: 1}, [9]int{4: 1}, [9]int{4: 1}, true},
		{nil, []complex128{4 + 4i}, [9]int{4: 1}, [9]int{4: 1}, [9]int{4: 1}, true},
		{nil, []complex128{4 + 5i}, [9]int{4: 1}, [9]int{4: 1}, [9]int{4: 1}, true},
		{[]int{0}, []complex128{7 + 5i}, [9]int{1, 0, 0, 0, 0, 0, 0, 1}, [9]int{1, 0, 0, 0, 0, 0, 0, 1}, [9]int{1, 0, 0, 0, 0, 0, 0, 1}, true},
		// Two trees one below the other, both given back in part.
		{nil, []complex128{0, 4 + 2i, 6 + 2i}, [9]int{1, 1, 1, 1, 1, 1, 1}, [9]int{1, 1, 1, 1, 1, 1, 1}, [9]int{1, 1, 1, 1, 1, 1, 1}, true},
		{[]int{0}, []complex128{4 + 3i, 6 + 2i}, [9]int{1, 0, 1, 1, 1, 1, 1}, [9]int{1, 0, 1, 1, 1, 1, 1}, [9]int{1, 0, 1, 1, 1, 1, 1}, true},
		// What nobody holds, with a Ref: leaves, and nodes that tell others, which have what they tell.
		{[]int{2}, nil, [9]int{1, 1, 1, 0, 1}, [9]int{1, 1, 1}, [9]int{0, 0, 1}, false},
		{[]int{2, 4}, nil, [9]int{1, 1, 1, 1, 1, 1}, [9]int{1, 1, 2, 1, 1}, [9]int{1, 1, 1, 0, 1}, false},
		{[]int{4}, nil, [9]int{2, 2, 1, 1, 1, 0, 0, 0, 1}, [9]int{2, 2, 1, 1, 1}, [9]int{1, 1, 0, 0, 1}, false},
		// What is told, but by none that is held, and has no Ref.
		{[]int{2}, nil, [9]int{0, 0, 1, 0, 1}, [9]int{1, 1, 1}, [9]int{0, 0, 1}, false},
	} {
		h := refd(some(), x.ref[:]...)
		for p, n := range x.ref {
			if n == 0 {
				h.C[p] = api.Cell{}
			}
		}
		holds(t, h, x.roots, x.l)
		if got := Refs(h, x.roots, x.l); !slices.Equal(got, append(x.refs[:], 0, 0)) {
			t.Errorf("%d: Refs %v", i, got)
		}
		is := Held(h, x.roots, x.l)
		if len(is) != 11 || is[9] || is[10] {
			t.Errorf("%d: Held %v", i, is)
		}
		for p, n := range x.held {
			if is[p] != (n == 1) {
				t.Errorf("%d: Held: %d %v", i, p, is[p])
			}
		}
		if got := Sound(h, x.roots, x.l); got != x.ok {
			t.Errorf("%d: Sound %v", i, got)
		}
	}
}

// P8.1: each item that tells a cell refers to it, two of one node too.
func TestTwice(t *testing.T) {
	h := of(leaf(1, 1), over(2, 1, 0), over(1, 1, 1, 2, 1, 3, 0))
	// As that is no right tree, nobody may have it for a root: it is told beside them.
	holds(t, h, []int{0}, nil)
	if got := Refs(h, []int{0}, nil); !slices.Equal(got, []int{3, 2, 0}) {
		t.Errorf("Refs %v", got)
	}
	if got := Held(h, []int{0}, nil); !slices.Equal(got, []bool{true, false, false}) {
		t.Errorf("Held %v", got)
	}
}

// P8.1, P8.2: nodes that nobody holds, and that tell one another in a ring: their Refs add up, and yet it isn't sound.
func TestRing(t *testing.T) {
	for i, h := range []api.Heap{
		of(leaf(1, 1), over(1, 1, 1)),
		of(leaf(1, 1), over(1, 1, 2), over(1, 1, 1)),
		of(leaf(2, 1), over(1, 1, 0, 2, 2), over(1, 1, 3), over(1, 1, 1)),
		of(leaf(1, 1), over(2, 1, 1, 2, 1)),
	} {
		holds(t, h, []int{0}, nil)
		for p, n := range Refs(h, []int{0}, nil) {
			if n != h.C[p].Ref {
				t.Errorf("%d: %d refer to %d", i, n, p)
			}
		}
		is := Held(h, []int{0}, nil)
		if !is[0] || slices.Contains(is[1:], true) || Sound(h, []int{0}, nil) {
			t.Errorf("%d: Held %v, or sound", i, is)
		}
	}
}

// P8.2: what is told by nodes that nobody holds, in a ring too, and has no Ref: not sound. What is told by items alone that are given back may have none.
func TestToldWithoutRef(t *testing.T) {
	ring := of(leaf(1, 1), over(1, 1, 1, 2, 2), api.Cell{}, api.Cell{Pin: true})
	holds(t, ring, []int{0}, nil)
	if got := Refs(ring, []int{0}, nil); !slices.Equal(got, []int{1, 1, 1, 0}) || Sound(ring, []int{0}, nil) {
		t.Errorf("Refs %v, or sound", got)
	}
	for _, c := range []api.Cell{{}, {Pin: true}} {
		back := of(leaf(1, 5), c, over(1, 1, 1, 5, 0))
		holds(t, back, nil, []complex128{2 + 2i})
		if got := Refs(back, nil, []complex128{2 + 2i}); !slices.Equal(got, []int{1, 0, 1}) || !Sound(back, nil, []complex128{2 + 2i}) {
			t.Errorf("%v: Refs %v, or not sound", c, got)
		}
	}
}

// P8.2: a Ref too many or too few, of any one cell, isn't sound.
func TestOneOff(t *testing.T) {
	h := refd(some(), 3, 3, 3, 2, 2, 1, 1, 1, 1)
	roots := []int{6, 7, 8, 4}
	holds(t, h, roots, nil)
	if !Sound(h, roots, nil) {
		t.Fatal("not sound")
	}
	for p := range 9 {
		for _, by := range []int{-3, -2, -1, 1, 2, 1999, api.Most - 3} {
			n := h.C[p].Ref + by
			if n < 1 {
				continue
			}
			x := refd(h)
			x.C[p].Ref = n
			holds(t, x, roots, nil)
			if Sound(x, roots, nil) {
				t.Errorf("%d with a Ref of %d: sound", p, n)
			}
		}
	}
	for p := 9; p < 11; p++ {
		x := refd(h)
		x.C[p] = leaf(1, 1)
		holds(t, x, roots, nil)
		if Sound(x, roots, nil) {
			t.Errorf("%d with a Ref: sound", p)
		}
	}
}

// P8.2: neither Pins nor Keep count.
func TestPins(t *testing.T) {
	h := api.Heap{C: []api.Cell{{}, {Pin: true}, {Pin: true}, leaf(1, 1)}}
	for keep := range 5 {
		h.Keep = keep
		if holds(t, h, []int{3}, nil); !Sound(h, []int{3}, nil) {
			t.Errorf("Keep %d: not sound", keep)
		}
	}
}

// picker is a row of numbers that look as if they were drawn; the same for the same seed.
func picker(seed int) func(n int) int {
	x := uint64(seed)*2654435761 + 12345
	return func(n int) int {
		x = x*6364136223846793005 + 1442695040888963407
		return int(x>>33) % n
	}
}

// woods is a heap of trees of from 1 to so many nodes' height, that share nodes, and lie at drawn places; some cells are free. Each node has a Ref of 1.
func woods(pick func(n int) int, high, wide int) api.Heap {
	type part struct{ at, k, end int }
	h := api.Heap{C: make([]api.Cell, high*wide+pick(5)+1)}
	free := make([]int, len(h.C))
	for i := range free {
		j := pick(i + 1)
		free[i], free[j] = free[j], i
	}
	lay := func(c api.Cell) int {
		p := free[0]
		free = free[1:]
		h.C[p] = c
		return p
	}
	var row []part
	for k := range wide {
		row = append(row, part{lay(leaf(1, k)), k, k})
	}
	for range high - 1 {
		var up []part
		for range wide {
			var l []int
			i := pick(len(row))
			x := part{k: row[i].k, end: row[i].end}
			l = append(l, row[i].k, row[i].at)
			for range pick(api.PerNode) {
				// Of those whose keys are behind all that are below this node yet, one that is drawn.
				if y := row[pick(len(row))]; y.k > x.end {
					x.end = y.end
					l = append(l, y.k, y.at)
				}
			}
			x.at = lay(over(1, l...))
			up = append(up, x)
		}
		row = up
	}
	return h
}

// drawn is a heap with roots and tasks, of which all is sound: cells have the Refs that refer to them, and those that nobody holds are free, or wait.
func drawn(pick func(n int) int) (h api.Heap, roots []int, l []complex128) {
	h = woods(pick, 1+pick(5), 1+pick(8))
	var used []int
	for p, c := range h.C {
		if c.Ref > 0 {
			used = append(used, p)
		}
	}
	for range pick(5) {
		roots = append(roots, append(used, -1)[pick(len(used)+1)])
	}
	for range pick(6) {
		l = append(l, complex(float64(used[pick(len(used))]), 0))
	}
	for _, p := range used {
		c := &h.C[p]
		if held(h, roots, l)[p] || c.N.Leaf || pick(2) == 0 {
			continue
		}
		// Nobody holds it yet, and a task may go on there; what its first items told is given back, or is a task itself.
		k := 1 + pick(5)
		for _, x := range c.N.It[:min(k-1, len(c.N.It))] {
			if pick(2) == 0 && h.C[x.V].Ref > 0 {
				l = append([]complex128{complex(float64(x.V), 0)}, l...)
			}
		}
		l = append(l, complex(float64(p), float64(k)))
	}
	l = alone(h, roots, l)
	is := held(h, roots, l)
	for p := range h.C {
		if !is[p] {
			h.C[p] = api.Cell{Pin: pick(3) == 0}
		}
	}
	return refd(h, refs(h, roots, l)...), roots, l
}

// alone is tasks without those that may not be: with steps done, at cells to which anything else refers.
func alone(h api.Heap, roots []int, l []complex128) []complex128 {
	for i, t := range l {
		is := held(h, roots, l)
		x := refd(h)
		for p := range x.C {
			if !is[p] {
				x.C[p] = api.Cell{}
			}
		}
		if imag(t) > 0 && refs(x, roots, l)[int(real(t))] != 1 {
			return alone(h, roots, slices.Delete(slices.Clone(l), i, i+1))
		}
	}
	return l
}

// P8.1, P8.2: of drawn heaps, roots and tasks: all is sound; behind one change of any one Ref it isn't.
func TestDrawn(t *testing.T) {
	tasks, onward := 0, 0
	for seed := range 3000 {
		pick := picker(seed)
		h, roots, l := drawn(pick)
		holds(t, h, roots, l)
		if !Sound(h, roots, l) {
			t.Fatalf("%d: %v, roots %v, tasks %v: not sound", seed, h, roots, l)
		}
		for _, x := range l {
			if tasks++; imag(x) > 1 {
				onward++
			}
		}
		p := pick(len(h.C))
		x := refd(h)
		if x.C[p].Ref == 0 {
			x.C[p] = leaf(0, 1)
		}
		x.C[p].Ref++
		if Sound(x, roots, l) {
			t.Fatalf("%d: %v, roots %v, tasks %v: a Ref more at %d: sound", seed, h, roots, l, p)
		}
		if h.C[p].Ref > 1 {
			x.C[p].Ref -= 2
			if Sound(x, roots, l) {
				t.Fatalf("%d: %v, roots %v, tasks %v: a Ref less at %d: sound", seed, h, roots, l, p)
			}
		}
	}
	if tasks < 3000 || onward < 500 {
		t.Errorf("just %d tasks, and %d that have given back", tasks, onward)
	}
}

// P8.1, P8.2: as drawn, but each cell has a Ref, whether it is held or not: what is told by what nobody holds counts, and is held by none.
func TestUnheld(t *testing.T) {
	many := 0
	for seed := range 1000 {
		pick := picker(seed)
		h := woods(pick, 1+pick(5), 1+pick(8))
		var roots []int
		for p, c := range h.C {
			if c.Ref > 0 && pick(4) == 0 {
				roots = append(roots, p)
			}
		}
		h = refd(h, refs(h, roots, nil)...)
		for p := range h.C {
			if h.C[p].Ref == 0 && len(h.C[p].N.It) > 0 {
				h.C[p].Ref = 1 + pick(2)
			}
		}
		holds(t, h, roots, nil)
		if !Sound(h, roots, nil) {
			many++
		}
	}
	if many < 500 || many == 1000 {
		t.Errorf("%d of 1000 not sound", many)
	}
}

// P8.3: with a root more a cell has a Ref more, and no other one has.
func TestRootMore(t *testing.T) {
	for seed := range 300 {
		h, roots, l := drawn(picker(seed))
		was := Refs(h, roots, l)
		for p, c := range h.C {
			if c.Ref == 0 || !spoken(h, []int{p}, l) {
				continue
			}
			now := Refs(h, append(slices.Clone(roots), p), l)
			if first := Refs(h, append([]int{p}, roots...), l); !slices.Equal(now, first) {
				t.Fatalf("%d: the root %d behind others, and ahead of them: %v, %v", seed, p, now, first)
			}
			if now[p]--; !slices.Equal(now, was) {
				t.Fatalf("%d: %v, roots %v, tasks %v, and a root %d: Refs %v, and then %v", seed, h, roots, l, p, was, now)
			}
		}
		if now := Refs(h, append(slices.Clone(roots), -1), l); !slices.Equal(now, was) {
			t.Fatalf("%d: with a root of no tree: %v, not %v", seed, now, was)
		}
	}
}

// P8.3: where all is sound, a cell without a Ref is told by none that is held, but by what is given back.
func TestNoneTold(t *testing.T) {
	for seed := range 1000 {
		h, roots, l := drawn(picker(seed))
		if !Sound(h, roots, l) {
			t.Fatalf("%d: not sound", seed)
		}
		for p, is := range Held(h, roots, l) {
			if !is || h.C[p].N.Leaf {
				continue
			}
			for i, x := range h.C[p].N.It {
				if i >= Given(l, p) && h.C[x.V].Ref == 0 {
					t.Fatalf("%d: %d, which is held, tells %d", seed, p, x.V)
				}
			}
		}
	}
}

// stepped is a heap and tasks behind one step of giving back: the first task goes on, or ends.
func stepped(h api.Heap, l []complex128) (api.Heap, []complex128) {
	h, l = refd(h), slices.Clone(l)
	p, k := int(real(l[0])), int(imag(l[0]))
	c := &h.C[p]
	if k == 0 && c.Ref > 1 {
		c.Ref--
		return h, l[1:]
	}
	if k == 0 && c.N.Leaf || k > len(c.N.It) {
		*c = api.Cell{Pin: true}
		return h, l[1:]
	}
	l[0] += 1i
	if k > 0 {
		l = append([]complex128{complex(float64(c.N.It[k-1].V), 0)}, l...)
	}
	return h, l
}

// P8.2: where all is sound, all is behind each step of giving back, to the end; what roots hold is held all the time.
func TestStepped(t *testing.T) {
	for seed := range 300 {
		h, roots, l := drawn(picker(seed))
		first := Held(h, roots, nil)
		for i := 0; len(l) > 0; i++ {
			if h, l = stepped(h, l); i > 20000 {
				t.Fatalf("%d: no end", seed)
			}
			holds(t, h, roots, l)
			if !Sound(h, roots, l) {
				t.Fatalf("%d: behind step %d: %v, roots %v, tasks %v: not sound", seed, i, h, roots, l)
			}
		}
		for p, is := range Held(h, roots, l) {
			if is != first[p] || is != (h.C[p].Ref > 0) {
				t.Fatalf("%d: in the end %d is held: %v", seed, p, is)
			}
		}
	}
}

// P8.2: what is laid, held and loosed in a heap, its roots told, is sound; with a root too many, or too few, it isn't.
func TestHeap(t *testing.T) {
	for seed := range 100 {
		pick := picker(seed)
		h, _ := heap.New(1+pick(30), 0)
		var roots []int
		for i := range 200 {
			var e api.Errno
			p := 0
			switch do := pick(4); {
			case do == 0:
				if h, p, e = heap.Alloc(h, api.Node{Leaf: true, It: []api.Item{{K: i, V: i}}}, nil); e == api.OK {
					roots = append(roots, p)
				}
			case do == 1 && len(roots) > 0:
				p = roots[pick(len(roots))]
				k := h.C[p].N.It[0].K
				if tree.High(h, p) == api.MaxHigh {
					continue
				}
				if h, p, e = heap.Alloc(h, api.Node{It: []api.Item{{K: k, V: p}}}, nil); e == api.OK {
					roots = append(roots, p)
				}
			case do == 2 && len(roots) > 0:
				p = roots[pick(len(roots))]
				h, _ = heap.Hold(h, p)
				roots = append(roots, p)
			case do == 3 && len(roots) > 0:
				at := pick(len(roots))
				h, _ = heap.Loose(h, roots[at])
				roots = slices.Delete(roots, at, at+1)
			}
			holds(t, h, roots, nil)
			if !Sound(h, roots, nil) {
				t.Fatalf("%d, %d: %v, roots %v: not sound", seed, i, h, roots)
			}
			if len(roots) > 0 && (Sound(h, append(slices.Clone(roots), roots[0]), nil) || Sound(h, roots[1:], nil)) {
				t.Fatalf("%d, %d: with another number of roots: sound", seed, i)
			}
		}
	}
}

// P8.1, P8.2: the greatest heap, as one tree; and with as many tasks as there may be.
func TestGreatest(t *testing.T) {
	h := api.Heap{C: make([]api.Cell, 2000)}
	var row []api.Item
	for p := range 1498 {
		h.C[p] = leaf(1, p)
		row = append(row, api.Item{K: p, V: p})
	}
	for p := 1498; len(row) > 1; {
		var up []api.Item
		for part := range slices.Chunk(row, 4) {
			h.C[p] = api.Cell{Ref: 1, N: api.Node{It: part}}
			up = append(up, api.Item{K: part[0].K, V: p})
			p++
		}
		row = up
	}
	if !spoken(h, []int{1999}, nil) || !Sound(h, []int{1999}, nil) || slices.Contains(Held(h, []int{1999}, nil), false) {
		t.Error("a tree of all cells: not sound, or not held")
	}
	// 375 nodes stand right over the leaves. All of their items are given back, and as many leaves as may be are tasks; the others wait.
	var l []complex128
	for p := 1498; p < 1498+375; p++ {
		l = append(l, complex(float64(p), 5))
	}
	for p := range 125 {
		l = append(l, complex(float64(p), 0))
	}
	for p := 125; p < 2000; p++ {
		if p < 1498 || p >= 1498+375 {
			h.C[p] = api.Cell{Pin: true}
		}
	}
	if holds(t, h, nil, l); !Sound(h, nil, l) {
		t.Error("500 tasks: not sound")
	}
	roots := make([]int, 20000)
	if got := Refs(h, roots, l)[0]; got != 20001 || !Sound(refd(h, 20001), roots, l) {
		t.Errorf("20000 roots: %d", got)
	}
}

// P8.1, P8.2: the highest tree, of one node a row.
func TestHighest(t *testing.T) {
	h := of(leaf(1, 7))
	for p := range 19 {
		h.C = append(h.C, over(1, 7, p))
	}
	holds(t, h, []int{19}, nil)
	if !Sound(h, []int{19}, nil) || Sound(h, []int{18}, nil) || Sound(h, nil, nil) || slices.Contains(Held(h, []int{19}, nil), false) {
		t.Error("Sound, or Held")
	}
	if is := Held(h, []int{11}, nil); slices.Contains(is[:12], false) || slices.Contains(is[12:], true) {
		t.Errorf("Held %v", is)
	}
}

// The chapter's example: a leaf of Ref 1, a root: sound; with a task at it, too: not.
func TestExample(t *testing.T) {
	h := of(leaf(1, 1))
	if !Sound(h, []int{0}, nil) || Sound(h, []int{0}, []complex128{0}) {
		t.Error(Sound(h, []int{0}, nil), Sound(h, []int{0}, []complex128{0}))
	}
}

// R1: no call panics, and all end, at heaps, roots and tasks that may not be, too.
func TestEnds(t *testing.T) {
	ring := api.Heap{C: make([]api.Cell, 2000)}
	for p := range ring.C {
		ring.C[p] = over(1, 1, (p+1)%2000, 2, p, 3, (p+7)%2000)
	}
	odd := []float64{math.NaN(), math.Inf(1), math.Inf(-1), -1, -5, 0.5, 2000, 65536, 1 << 62, 1 << 63, -1 << 63, 1e300, -math.MaxFloat64}
	var l []complex128
	for _, x := range odd {
		for _, y := range append(odd, 0, 1, 3, 5) {
			l = append(l, complex(x, y), complex(y, x))
		}
	}
	for _, h := range []api.Heap{{}, of(), ring, of(api.Cell{Ref: -1, N: over(1, 5, 5).N}, over(math.MaxInt, 0, 0, 0, 0, -1, -1, 9, 9)), of(api.Cell{Ref: 1, Pin: true}, over(1, 1, math.MinInt, 2, math.MaxInt, 3, 1, 4, 1, 5, 0)), some()} {
		for _, r := range append([]int{-1, 0, 1}, far...) {
			Given(l, r)
			if len(Refs(h, []int{r, 0, r}, l)) != len(h.C) || len(Held(h, []int{r, 0, r}, l)) != len(h.C) {
				t.Errorf("%d: another number of cells", r)
			}
			Sound(h, []int{r, 0, r}, l)
		}
	}
	if slices.Contains(Held(ring, []int{3}, nil), false) {
		t.Error("a ring of all cells")
	}
}

// R3: what is handed in isn't written into, not even behind its end.
func TestHandedIn(t *testing.T) {
	h := refd(some(), 3, 3, 3, 2, 2, 1, 1, 1, 1)
	h.C = append(h.C, leaf(7, 7))
	roots := []int{6, 7, 8, 4, -1, 90}
	l := []complex128{2, 4, 6 + 2i, 90}
	was, wasRoots, wasL := deep(h), slices.Clone(roots), slices.Clone(l)
	part := api.Heap{C: h.C[:11]}
	for i := range len(roots) + 1 {
		for j := range len(l) + 1 {
			Refs(part, roots[:i], l[:j])
			Held(part, roots[:i], l[:j])
			Sound(part, roots[:i], l[:j])
			Given(l[:j], 6)
		}
	}
	if !heap.Same(h, was) || !slices.Equal(roots, wasRoots) || !slices.Equal(l, wasL) {
		t.Error("what was handed in is changed")
	}
}

// R3, R4: answers are the same each time, and who writes into one changes neither another one nor what was handed in.
func TestAnswersAreTheirOwn(t *testing.T) {
	for seed := range 100 {
		h, roots, l := drawn(picker(seed))
		was, wasRoots := deep(h), slices.Clone(roots)
		n, is, ok := Refs(h, roots, l), Held(h, roots, l), Sound(h, roots, l)
		m, also := Refs(h, roots, l), Held(h, roots, l)
		if !slices.Equal(n, m) || !slices.Equal(is, also) || Sound(h, roots, l) != ok {
			t.Fatalf("%d: two answers", seed)
		}
		for p := range n {
			n[p], is[p] = -7, !is[p]
		}
		if !slices.Equal(m, Refs(h, roots, l)) || !slices.Equal(also, Held(h, roots, l)) || !heap.Same(h, was) || !slices.Equal(roots, wasRoots) {
			t.Fatalf("%d: one answer changes what was handed in, or another one", seed)
		}
	}
}
