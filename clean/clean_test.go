package clean

import (
	"math"
	"slices"
	"testing"

	"assart/api"
	"assart/audit"
	"assart/grow"
	"assart/heap"
	"assart/prune"
	"assart/todo"
	"assart/tree"
)

// pin is a cell that waits for a commit.
var pin = api.Cell{Pin: true}

// far are numbers that are neither places, nor numbers of steps that can be done.
var far = []int{math.MinInt, math.MinInt + 1, -1 << 32, -1 << 31, -20001, -2001, -2, 1 << 31, 1 << 32, math.MaxInt - 1, math.MaxInt}

// leaf is a cell with a leaf of these keys, each of which tells the place of a cell, as it seems.
func leaf(ref int, k ...int) api.Cell {
	c := api.Cell{Ref: ref, N: api.Node{Leaf: true}}
	for _, x := range k {
		c.N.It = append(c.N.It, api.Item{K: x, V: 0})
	}
	return c
}

// over is a cell with a node that is no leaf, of these keys and places in turn.
func over(ref int, kp ...int) api.Cell {
	c := api.Cell{Ref: ref}
	for i := 0; i+1 < len(kp); i += 2 {
		c.N.It = append(c.N.It, api.Item{K: kp[i], V: kp[i+1]})
	}
	return c
}

func of(c ...api.Cell) api.Heap { return api.Heap{C: c, Keep: 1} }

// tasks is a row of them.
func tasks(t ...complex128) []complex128 { return t }

// deep is a heap's copy, in memory of its own.
func deep(h api.Heap) api.Heap {
	h.C = slices.Clone(h.C)
	for p := range h.C {
		h.C[p].N.It = slices.Clone(h.C[p].N.It)
	}
	return h
}

// changed is a heap's copy with other cells at some places.
func changed(h api.Heap, cells map[int]api.Cell) api.Heap {
	h = deep(h)
	for p, c := range cells {
		h.C[p] = c
	}
	return h
}

// same: are two heaps the same?
func same(a, b api.Heap) bool {
	return a.Keep == b.Keep && slices.EqualFunc(a.C, b.C, func(x, y api.Cell) bool {
		return x.Ref == y.Ref && x.Pin == y.Pin && x.N.Leaf == y.N.Leaf && slices.Equal(x.N.It, y.N.It)
	})
}

// picker is a row of numbers that look as if they were drawn; the same for the same seed.
func picker(seed int) func(n int) int {
	x := uint64(seed)*2654435761 + 12345
	return func(n int) int {
		x = x*6364136223846793005 + 1442695040888963407
		return int(x>>33) % n
	}
}

// stepped is Step, worked out apart from it, by the words alone.
func stepped(h api.Heap, l []complex128) (api.Heap, []complex128) {
	if len(l) == 0 {
		return h, l
	}
	h, l = deep(h), slices.Clone(l)
	p, k := int(real(l[0])), int(imag(l[0]))
	c := &h.C[p]
	on := complex(float64(p), float64(k+1))
	switch {
	case k == 0 && c.Ref != 1:
		c.Ref--
		return h, l[1:]
	case k == 0 && c.N.Leaf:
		h, _ = heap.Loose(h, p)
		return h, l[1:]
	case k == 0:
		return h, append(tasks(on), l[1:]...)
	case k <= len(c.N.It):
		return h, append(tasks(complex(float64(c.N.It[k-1].V), 0), on), l[1:]...)
	}
	c.Ref, c.N, c.Pin = 0, api.Node{}, true
	return h, l[1:]
}

// spoken: does the chapter speak of these?
func spoken(h api.Heap, l []complex128) bool {
	if !heap.Right(h) || !todo.Right(l, len(h.C)) {
		return false
	}
	return !slices.ContainsFunc(l, func(t complex128) bool { return !speaks(h, l, t) })
}

// speaks: does it speak of a task?
func speaks(h api.Heap, l []complex128, t complex128) bool {
	p := int(real(t))
	if imag(t) == 0 {
		return tree.Right(h, p)
	}
	n := h.C[p].N
	if h.C[p].Ref != 1 || n.Leaf {
		return false
	}
	given := min(audit.Given(l, p), len(n.It))
	return !slices.ContainsFunc(n.It[given:], func(x api.Item) bool { return !tree.Right(h, x.V) })
}

// holds holds Step, and Steps of one, against what was worked out apart, and that what was handed in stays as it was; what comes out is told.
func holds(t *testing.T, h api.Heap, l []complex128) (api.Heap, []complex128) {
	t.Helper()
	if !spoken(h, l) {
		t.Fatalf("the chapter doesn't speak of %v, tasks %v", h, l)
	}
	was, wasL := deep(h), slices.Clone(l)
	want, wantL := stepped(h, l)
	got, gotL := Step(h, l)
	if !same(got, want) || !slices.Equal(gotL, wantL) {
		t.Fatalf("Step of %v, tasks %v: %v, tasks %v; not %v, tasks %v", h, l, got, gotL, want, wantL)
	}
	if x, m := Steps(h, l, 1); !same(x, want) || !slices.Equal(m, wantL) {
		t.Fatalf("Steps of %v, tasks %v, 1: %v, tasks %v", h, l, x, m)
	}
	if !same(h, was) || !slices.Equal(l, wasL) {
		t.Fatalf("Step of tasks %v: what was handed in is changed", wasL)
	}
	return got, gotL
}

// some is a sound heap: a tree 6 of two rows below, of which the tree 7 has a part, too; free cells, and one that waits. Its roots are 6 and 7.
func some() api.Heap {
	return of(
		leaf(1, 1, 2),             // 0
		leaf(1, 3),                // 1
		leaf(1, 5, 6, 7, 8),       // 2
		leaf(2, 9),                // 3
		over(1, 1, 0, 3, 1, 5, 2), // 4
		over(2, 9, 3),             // 5
		over(1, 1, 4, 9, 5),       // 6
		over(1, 9, 5, 20, 8),      // 7
		over(1, 20, 9),            // 8
		leaf(1, 20),               // 9
		over(1, 9, 3),             // 10
		api.Cell{},                // 11
		pin,                       // 12
	)
}

// P11.1: the tasks, and behind them that of the root, of which no step is done.
func TestGive(t *testing.T) {
	for i, x := range []struct {
		l    []complex128
		root int
		want []complex128
	}{
		{nil, 0, tasks(0)}, {nil, 7, tasks(7)}, {nil, 1999, tasks(1999)}, {tasks(), 3, tasks(3)},
		{tasks(4), 3, tasks(4, 3)}, {tasks(3), 4, tasks(3, 4)}, {tasks(3), 3, tasks(3, 3)}, {tasks(3 + 2i), 3, tasks(3+2i, 3)},
		{tasks(1, 3+1i, 1999+5i, 0, 1), 2, tasks(1, 3+1i, 1999+5i, 0, 1, 2)},
		// Of no tree the tasks.
		{nil, -1, nil}, {tasks(4), -1, tasks(4)}, {tasks(4, 3+2i, 4), -1, tasks(4, 3+2i, 4)},
	} {
		if got, e := Give(x.l, x.root); e != api.OK || !slices.Equal(got, x.want) {
			t.Errorf("%d: %v, %d", i, got, e)
		}
	}
	for p := range 2000 {
		if got, e := Give(tasks(1+1i), p); e != api.OK || !slices.Equal(got, tasks(1+1i, complex(float64(p), 0))) {
			t.Fatalf("%d: %v, %d", p, got, e)
		}
	}
}

// P11.1: up to 479 tasks one is laid behind; of 480 or more it's ErrFull, and the tasks. What lays none is none too many.
func TestGiveFull(t *testing.T) {
	var l []complex128
	for n := range 501 {
		want, f := append(slices.Clone(l), 7), api.OK
		if n >= 480 {
			want, f = l, api.ErrFull
		}
		if got, e := Give(l, 7); e != f || !slices.Equal(got, want) {
			t.Fatalf("%d tasks: %d, and then %d", n, e, len(got))
		}
		if got, e := Give(l, -1); e != api.OK || !slices.Equal(got, l) {
			t.Fatalf("%d tasks, no tree: %d, and then %d", n, e, len(got))
		}
		l = append(l, complex(float64(n), float64(n%6)))
	}
	for _, n := range []int{480, 481, 20000} {
		if got, e := Give(make([]complex128, n), 0); e != api.ErrFull || len(got) != n {
			t.Errorf("%d tasks: %d, and then %d", n, e, len(got))
		}
	}
}

// P11.2: one step of each kind, worked out by hand.
func TestStep(t *testing.T) {
	h := some()
	for i, x := range []struct {
		h     api.Heap
		l     []complex128
		cells map[int]api.Cell // those that are other ones behind it
		want  []complex128
	}{
		// No task.
		{h, nil, nil, nil},
		{h, tasks(), nil, nil},
		// A leaf of Ref 1, and leaves of more.
		{h, tasks(0), map[int]api.Cell{0: pin}, nil},
		{h, tasks(2, 6, 2), map[int]api.Cell{2: pin}, tasks(6, 2)},
		{h, tasks(3), map[int]api.Cell{3: leaf(1, 9)}, nil},
		{of(leaf(3, 5)), tasks(0, 0, 0), map[int]api.Cell{0: leaf(2, 5)}, tasks(0, 0)},
		{of(leaf(api.Most, 5)), tasks(0), map[int]api.Cell{0: leaf(api.Most-1, 5)}, nil},
		// A node that is no leaf: of Ref 1 it is begun; of more it stays, with all that is below it.
		{h, tasks(6), nil, tasks(6 + 1i)},
		{h, tasks(8, 6, 3), nil, tasks(8+1i, 6, 3)},
		{h, tasks(5), map[int]api.Cell{5: over(1, 9, 3)}, nil},
		{h, tasks(5, 6+1i), map[int]api.Cell{5: over(1, 9, 3)}, tasks(6 + 1i)},
		{of(leaf(1, 5), over(api.Most, 5, 0)), tasks(1), map[int]api.Cell{1: over(api.Most-1, 5, 0)}, nil},
		// Item by item: the heap stays.
		{h, tasks(4 + 1i), nil, tasks(0, 4+2i)},
		{h, tasks(4 + 2i), nil, tasks(1, 4+3i)},
		{h, tasks(4+3i, 6+2i), nil, tasks(2, 4+4i, 6+2i)},
		{h, tasks(6+1i, 7, 6), nil, tasks(4, 6+2i, 7, 6)},
		{h, tasks(6 + 2i), nil, tasks(5, 6+3i)},
		{h, tasks(8 + 1i), nil, tasks(9, 8+2i)},
		// Behind the last one: the node is gone, and what it told stays as it is, whatever is there.
		{h, tasks(4 + 4i), map[int]api.Cell{4: pin}, nil},
		{h, tasks(4 + 5i), map[int]api.Cell{4: pin}, nil},
		{h, tasks(6+3i, 4), map[int]api.Cell{6: pin}, tasks(4)},
		{h, tasks(6+4i, 6+5i), map[int]api.Cell{6: pin}, tasks(6 + 5i)},
		{h, tasks(8 + 2i), map[int]api.Cell{8: pin}, nil},
		{h, tasks(8 + 5i), map[int]api.Cell{8: pin}, nil},
		{of(over(1, 1, 1, 3, 2, 5, 3), api.Cell{}, pin, leaf(4, 5)), tasks(0 + 4i), map[int]api.Cell{0: pin}, nil},
		// A node of four items.
		{of(leaf(1, 1), leaf(1, 2), leaf(1, 3), leaf(1, 4), over(1, 1, 0, 2, 1, 3, 2, 4, 3)), tasks(4 + 4i), nil, tasks(3, 4+5i)},
		{of(leaf(1, 1), leaf(1, 2), leaf(1, 3), leaf(1, 4), over(1, 1, 0, 2, 1, 3, 2, 4, 3)), tasks(4 + 5i), map[int]api.Cell{4: pin}, nil},
		// A task that stands behind doesn't count, even one of the same cell.
		{of(leaf(1, 5), over(1, 5, 0)), tasks(1, 1+2i), nil, tasks(1+1i, 1+2i)},
		{of(leaf(2, 5)), tasks(0, 0), map[int]api.Cell{0: leaf(1, 5)}, tasks(0)},
		{of(leaf(1, 5), over(2, 5, 0)), tasks(1, 1), map[int]api.Cell{1: over(1, 5, 0)}, tasks(1)},
	} {
		want := changed(x.h, x.cells)
		if got, l := Step(x.h, x.l); !same(got, want) || !slices.Equal(l, x.want) {
			t.Errorf("%d: %v, tasks %v", i, got, l)
		}
		holds(t, x.h, x.l)
	}
}

// trace holds all steps of a heap against tasks worked out by hand, behind each; all is sound there. What comes out is told.
func trace(t *testing.T, h api.Heap, roots []int, l []complex128, want ...[]complex128) api.Heap {
	t.Helper()
	first, firstL := h, l
	for i, x := range want {
		if got := Left(h, l); got != len(want)-i {
			t.Fatalf("behind %d steps: %d left, not %d", i, got, len(want)-i)
		}
		h, l = holds(t, h, l)
		if !slices.Equal(l, x) || !audit.Sound(h, roots, l) {
			t.Fatalf("behind %d steps: tasks %v, or not sound", i+1, l)
		}
		if y, m := Steps(first, firstL, i+1); !same(y, h) || !slices.Equal(m, l) {
			t.Fatalf("%d steps: tasks %v", i+1, m)
		}
	}
	if Left(h, l) != 0 || len(l) != 0 {
		t.Fatalf("tasks %v are left", l)
	}
	return h
}

// P11.2, P11.3: a tree, to the end: all of it goes, each part ahead of what told it.
func TestWhole(t *testing.T) {
	h := of(leaf(1, 1), leaf(1, 5), over(1, 1, 0, 5, 1), leaf(1, 9), over(1, 9, 3), over(1, 1, 2, 9, 4))
	got := trace(t, h, nil, tasks(5),
		tasks(5+1i), tasks(2, 5+2i), tasks(2+1i, 5+2i), tasks(0, 2+2i, 5+2i), tasks(2+2i, 5+2i), tasks(1, 2+3i, 5+2i), tasks(2+3i, 5+2i), tasks(5+2i),
		tasks(4, 5+3i), tasks(4+1i, 5+3i), tasks(3, 4+2i, 5+3i), tasks(4+2i, 5+3i), tasks(5+3i), nil)
	if !same(got, of(slices.Repeat([]api.Cell{pin}, 6)...)) {
		t.Error(got)
	}
}

// P11.2, P11.4: of a tree that shares parts with others, and whose root another one has, too, just its own cells go.
func TestShared(t *testing.T) {
	h := some()
	h.C[10] = pin
	h.C[3].Ref = 1
	got := trace(t, h, []int{7}, tasks(6),
		tasks(6+1i), tasks(4, 6+2i), tasks(4+1i, 6+2i), tasks(0, 4+2i, 6+2i), tasks(4+2i, 6+2i), tasks(1, 4+3i, 6+2i), tasks(4+3i, 6+2i),
		tasks(2, 4+4i, 6+2i), tasks(4+4i, 6+2i), tasks(6+2i), tasks(5, 6+3i), tasks(6+3i), nil)
	if !same(got, changed(h, map[int]api.Cell{0: pin, 1: pin, 2: pin, 4: pin, 5: over(1, 9, 3), 6: pin})) {
		t.Error(got)
	}
	// The other one behind it: all that is left goes, too.
	got = trace(t, got, nil, tasks(7),
		tasks(7+1i), tasks(5, 7+2i), tasks(5+1i, 7+2i), tasks(3, 5+2i, 7+2i), tasks(5+2i, 7+2i), tasks(7+2i),
		tasks(8, 7+3i), tasks(8+1i, 7+3i), tasks(9, 8+2i, 7+3i), tasks(8+2i, 7+3i), tasks(7+3i), nil)
	if heap.Free(heap.Settle(got)) != 13 {
		t.Error(got)
	}
	// A root that another one has, too: a step, and all stays.
	h.C[6].Ref = 2
	got = trace(t, h, []int{6, 7}, tasks(6), nil)
	if !same(got, changed(h, map[int]api.Cell{6: over(1, 1, 4, 9, 5)})) {
		t.Error(got)
	}
}

// P11.2, P11.3: two tasks of one cell, and three: all but the last one take a Ref.
func TestTwice(t *testing.T) {
	h := of(leaf(1, 1), over(2, 1, 0))
	got := trace(t, h, nil, tasks(1, 1), tasks(1), tasks(1+1i), tasks(0, 1+2i), tasks(1+2i), nil)
	if !same(got, of(pin, pin)) {
		t.Error(got)
	}
	// One of what the other one's tells: the one that is begun goes to its end.
	h = of(leaf(2, 1), over(1, 1, 0))
	trace(t, h, nil, tasks(1, 0), tasks(1+1i, 0), tasks(0, 1+2i, 0), tasks(1+2i, 0), tasks(0), nil)
	trace(t, h, nil, tasks(0, 1), tasks(1), tasks(1+1i), tasks(0, 1+2i), tasks(1+2i), nil)
	trace(t, of(leaf(4, 7)), []int{0}, tasks(0, 0, 0), tasks(0, 0), tasks(0), nil)
}

// P11.2, P11.3: a node whose items tell one cell again: that is given back as often.
func TestToldAgain(t *testing.T) {
	got := trace(t, of(leaf(2, 1), over(1, 1, 0, 5, 0)), nil, tasks(1+1i), tasks(0, 1+2i), tasks(1+2i), tasks(0, 1+3i), tasks(1+3i), nil)
	if !same(got, of(pin, pin)) {
		t.Error(got)
	}
	// With another one's item, and a root, too.
	h := of(leaf(1, 1), over(5, 1, 0), over(1, 0, 1, 3, 1, 5, 1, 7, 1))
	got = trace(t, h, []int{1}, tasks(2+1i), tasks(1, 2+2i), tasks(2+2i), tasks(1, 2+3i), tasks(2+3i), tasks(1, 2+4i), tasks(2+4i), tasks(1, 2+5i), tasks(2+5i), nil)
	if !same(got, of(leaf(1, 1), over(1, 1, 0), pin)) {
		t.Error(got)
	}
	// The cell was given back by its first item, and is another tree's by now.
	got = trace(t, of(leaf(1, 9), over(1, 1, 0, 5, 0)), []int{0}, tasks(1+3i), nil)
	if !same(got, of(leaf(1, 9), pin)) {
		t.Error(got)
	}
}

// P11.2: as many steps as n says, and none if it is below 0; more than are left are none more.
func TestSteps(t *testing.T) {
	h, l := some(), tasks(6, 10, 3)
	h.C[3].Ref = 3
	all := Left(h, l)
	if !audit.Sound(h, []int{7}, l) || all != 18 {
		t.Fatalf("%d left, or not sound", all)
	}
	at, atL := h, l
	for n := range all + 5 {
		if got, m := Steps(h, l, n); !same(got, at) || !slices.Equal(m, atL) {
			t.Fatalf("%d: tasks %v, not %v", n, m, atL)
		}
		at, atL = stepped(at, atL)
	}
	for _, n := range append([]int{-1, 1000, 19999, 20000, 20001, api.Most}, far...) {
		want, wantL := at, atL
		if n < 0 {
			want, wantL = h, l
		}
		if got, m := Steps(h, l, n); !same(got, want) || !slices.Equal(m, wantL) {
			t.Errorf("%d: tasks %v, not %v", n, m, wantL)
		}
		if got, m := Steps(h, nil, n); !same(got, h) || len(m) != 0 {
			t.Errorf("%d, no task: tasks %v", n, m)
		}
	}
	// Some, and then the others, come to all.
	for n := range all + 1 {
		x, m := Steps(h, l, n)
		if Left(x, m) != all-n {
			t.Errorf("behind %d: %d left", n, Left(x, m))
		}
		if x, m = Steps(x, m, all-n); !same(x, at) || len(m) != 0 {
			t.Errorf("%d, and %d: tasks %v", n, all-n, m)
		}
	}
}

// P11.3: for how many steps there are tasks yet.
func TestLeft(t *testing.T) {
	h := some()
	for _, x := range []struct {
		h    api.Heap
		l    []complex128
		want int
	}{
		{h, nil, 0}, {h, tasks(), 0}, {of(pin), nil, 0},
		{h, tasks(0), 1}, {h, tasks(3), 1}, {h, tasks(5), 1}, {h, tasks(8), 4}, {h, tasks(8 + 1i), 3}, {h, tasks(8 + 2i), 1}, {h, tasks(8 + 5i), 1},
		{h, tasks(4), 8}, {h, tasks(4 + 1i), 7}, {h, tasks(4 + 2i), 5}, {h, tasks(4 + 3i), 3}, {h, tasks(4 + 4i), 1}, {h, tasks(4 + 5i), 1},
		{h, tasks(6), 13}, {h, tasks(7), 9}, {h, tasks(10), 4}, {h, tasks(6, 7), 25}, {h, tasks(7, 6), 25}, {h, tasks(0, 1, 2, 9), 4},
	} {
		if got := Left(x.h, x.l); got != x.want {
			t.Errorf("tasks %v: %d, not %d", x.l, got, x.want)
		}
	}
}

// P11.3: at most 20000, wherever the tasks come from, and whatever else there is to be done.
func TestLeftMost(t *testing.T) {
	h := of(leaf(30000, 7))
	for _, n := range []int{1, 500, 19998, 19999, 20000, 20001, 20100} {
		if got := Left(h, make([]complex128, n)); got != min(n, 20000) {
			t.Errorf("%d tasks: %d", n, got)
		}
	}
	// Nodes in a ring never come to an end. No more than 20000 steps are done there, either.
	ring := of(over(1, 1, 1), over(1, 1, 0))
	if got := Left(ring, tasks(0)); got != 20000 {
		t.Errorf("a ring: %d", got)
	}
	for _, n := range []int{20000, 20001, math.MaxInt} {
		if got, l := Steps(ring, tasks(0), n); !same(got, ring) || len(l) != 10001 || l[0] != 0 || l[1] != 1+2i || l[10000] != 2i {
			t.Errorf("a ring, %d steps: %d tasks", n, len(l))
		}
	}
}

// wide is a sound heap of nearly as many cells as there may be, with tasks that need nearly 20000 steps: 390 roots over four nodes each, each of which is over four of 16 leaves.
func wide() (api.Heap, []complex128) {
	h := of()
	for k := range 16 {
		h.C = append(h.C, leaf(390, k))
	}
	var l []complex128
	for range 390 {
		var it []api.Item
		for k := 0; k < 16; k += 4 {
			it = append(it, api.Item{K: k, V: len(h.C)})
			h.C = append(h.C, over(1, k, k, k+1, k+1, k+2, k+2, k+3, k+3))
		}
		l = append(l, complex(float64(len(h.C)), 0))
		h.C = append(h.C, api.Cell{Ref: 1, N: api.Node{It: it}})
	}
	return h, l
}

// P11.2 to P11.4: a heap that needs nearly 20000 steps is done behind them; there are never more tasks than may be.
func TestWide(t *testing.T) {
	h, l := wide()
	if len(h.C) != 1966 || !spoken(h, l) || !audit.Sound(h, nil, l) {
		t.Fatalf("%d cells, or not sound", len(h.C))
	}
	n := 390 * (6 + 4*10)
	if got := Left(h, l); got != n {
		t.Fatalf("%d left, not %d", got, n)
	}
	for i := 0; len(l) > 0; i++ {
		if i%1000 == 0 && !audit.Sound(h, nil, l) || len(l) > 392 {
			t.Fatalf("behind %d steps: %d tasks, or not sound", i, len(l))
		}
		h, l = Step(h, l)
		n--
	}
	if n != 0 || !same(h, of(slices.Repeat([]api.Cell{pin}, 1966)...)) {
		t.Errorf("%d too few", n)
	}
}

// P11.1, P11.4: the highest tree behind as many tasks as it may be given behind: at no time there are more than 500.
func TestHighest(t *testing.T) {
	h := of(leaf(1, 5))
	for p := range 19 {
		h.C = append(h.C, over(1, 5, p))
	}
	h.C = append(h.C, leaf(480, 7))
	var l []complex128
	for range 479 {
		l, _ = Give(l, 20)
	}
	l, e := Give(l, 19)
	if e != api.OK || !audit.Sound(h, []int{20}, l) {
		t.Fatalf("%d, or not sound", e)
	}
	// Ahead of all others it takes most room.
	l = append(tasks(19), l[:479]...)
	longest := 0
	for i := range 480 + 19*3 {
		if !audit.Sound(h, []int{20}, l) || !spoken(h, l) || Left(h, l) != 480+19*3-i {
			t.Fatalf("behind %d steps: %d left, or not sound", i, Left(h, l))
		}
		longest = max(longest, len(l))
		h, l = Step(h, l)
	}
	if longest != 499 || len(l) != 0 || h.C[20].Ref != 1 {
		t.Errorf("%d tasks at once, %d left", longest, len(l))
	}
}

// grove is a heap, the roots of its trees, and what is to be given back.
type grove struct {
	h     api.Heap
	roots []int
	l     []complex128
}

// change does one thing that is drawn: a tree more, a copy of one, one that is given back, a commit, an item put, or taken out.
func (g *grove) change(t *testing.T, pick func(n int) int, keys int) {
	t.Helper()
	if len(g.roots) == 0 {
		g.roots = []int{-1}
	}
	i := pick(len(g.roots))
	switch do := pick(20); {
	case do == 0 && len(g.roots) < 6:
		g.roots = append(g.roots, -1)
	case do < 3 && len(g.roots) < 6:
		if g.roots[i] >= 0 {
			g.h, _ = heap.Hold(g.h, g.roots[i])
		}
		g.roots = append(g.roots, g.roots[i])
	case do < 5:
		l, e := Give(g.l, g.roots[i])
		if e != api.OK {
			t.Fatalf("Give: %d", e)
		}
		g.l, g.roots = l, slices.Delete(g.roots, i, i+1)
	case do == 5:
		g.h = heap.Settle(g.h)
	case do < 15:
		g.h, g.roots[i], _ = grow.Put(g.h, g.roots[i], pick(keys), pick(1000), pick(2) == 0)
	default:
		g.h, g.roots[i], _ = prune.Del(g.h, g.roots[i], pick(keys))
	}
}

// seen is all that the trees of the roots have: their nodes, with places, and what is in them.
func (g *grove) seen() [][]api.Item {
	var l [][]api.Item
	for _, r := range g.roots {
		for _, p := range tree.Nodes(g.h, r) {
			n := g.h.C[p].N
			what := api.Item{K: p}
			if n.Leaf {
				what.V = 1
			}
			l = append(l, append([]api.Item{what}, n.It...))
		}
	}
	return l
}

// empty is which cells are free.
func empty(h api.Heap) []bool {
	l := make([]bool, len(h.C))
	for p, c := range h.C {
		l[p] = c.Ref == 0 && !c.Pin
	}
	return l
}

// step does a step, and holds it against what was worked out apart, and against what follows.
func (g *grove) step(t *testing.T) {
	t.Helper()
	seen, free, left := g.seen(), empty(g.h), Left(g.h, g.l)
	g.h, g.l = holds(t, g.h, g.l)
	if !slices.EqualFunc(g.seen(), seen, slices.Equal[[]api.Item]) {
		t.Fatalf("%v, roots %v, tasks %v: a tree is changed", g.h, g.roots, g.l)
	}
	if !slices.Equal(empty(g.h), free) {
		t.Fatalf("%v, tasks %v: other cells are free", g.h, g.l)
	}
	if got := Left(g.h, g.l); got != max(left-1, 0) {
		t.Fatalf("%v, tasks %v: %d left, and then %d", g.h, g.l, left, got)
	}
	g.sound(t)
}

// sound: is all sound, and are trees and tasks right?
func (g *grove) sound(t *testing.T) {
	t.Helper()
	if !spoken(g.h, g.l) || !audit.Sound(g.h, g.roots, g.l) {
		t.Fatalf("%v, roots %v, tasks %v: not right, or not sound", g.h, g.roots, g.l)
	}
	used := 0
	for _, c := range g.h.C {
		if c.Ref > 0 {
			used++
		}
	}
	// What waits, and nothing else that isn't free, is free behind a commit.
	if heap.Free(heap.Settle(g.h)) != len(g.h.C)-used {
		t.Fatalf("%v: other cells are free behind a commit", g.h)
	}
}

// ended is the heap behind all steps that are left: just what the roots hold has a Ref there.
func (g *grove) ended(t *testing.T) {
	t.Helper()
	n := Left(g.h, g.l)
	h, l := Steps(g.h, g.l, n)
	if len(l) != 0 || !audit.Sound(h, g.roots, nil) {
		t.Fatalf("%v, roots %v: behind %d steps tasks %v, or not sound", g.h, g.roots, n, l)
	}
	if n > 0 {
		if _, m := Steps(g.h, g.l, n-1); len(m) == 0 {
			t.Fatalf("%v, tasks %v: fewer steps than %d", g.h, g.l, n)
		}
	}
	for p, is := range audit.Held(g.h, g.roots, nil) {
		if is != (h.C[p].Ref > 0) {
			t.Fatalf("%v, roots %v, tasks %v: in the end %d is held: %v", g.h, g.roots, g.l, p, is)
		}
	}
}

// P11.2 to P11.4: drawn trees that share nodes, changed, copied and given back beside steps and commits.
func TestGrove(t *testing.T) {
	done, twice, used := 0, 0, 0
	for seed := range 150 {
		pick := picker(seed)
		size := 5 + pick(50)
		h, _ := heap.New(size, pick(size/6+1))
		g := &grove{h: h}
		keys, slow := 1+pick(60), 1+pick(4)
		for range 250 {
			if len(g.l) > 0 && pick(slow) == 0 {
				g.step(t)
				done++
			} else {
				g.change(t, pick, keys)
				g.sound(t)
			}
			g.ended(t)
			twice += again(g.l)
			used += others(g.h, g.l)
		}
		for len(g.l) > 0 {
			g.step(t)
		}
		g.step(t)
	}
	if done < 2000 || twice < 500 || used < 500 {
		t.Errorf("just %d steps, %d times two tasks of one cell, %d times items given back that tell cells in use", done, twice, used)
	}
}

// again is 1, if there are two tasks of one cell.
func again(l []complex128) int {
	for i, x := range l {
		for _, y := range l[:i] {
			if real(x) == real(y) {
				return 1
			}
		}
	}
	return 0
}

// others is 1, if an item that is given back tells a cell that has a Ref.
func others(h api.Heap, l []complex128) int {
	for _, x := range l {
		p := int(real(x))
		it := h.C[p].N.It
		for _, y := range it[:min(audit.Given(l, p), len(it))] {
			if h.C[y.V].Ref > 0 {
				return 1
			}
		}
	}
	return 0
}

// P11.4: no cell is needed: of a heap without a free cell a tree is given back, with one that shares nodes with it beside.
func TestNoRoom(t *testing.T) {
	h, _ := heap.New(60, 0)
	g := &grove{h: h, roots: []int{-1, -1}}
	for k := range 30 {
		g.h, g.roots[0], _ = grow.Put(heap.Settle(g.h), g.roots[0], k*7%31, k, false)
	}
	g.h, _ = heap.Hold(g.h, g.roots[0])
	g.h, g.roots[1], _ = grow.Put(heap.Settle(g.h), g.roots[0], 50, 5, false)
	for e := api.OK; e == api.OK; {
		n := api.Node{Leaf: true, It: []api.Item{{K: 9, V: 9}}}
		var p int
		if g.h, p, e = heap.Alloc(g.h, n, nil); e == api.OK {
			g.roots = append(g.roots, p)
		}
	}
	g.l, _ = Give(nil, g.roots[0])
	g.roots = g.roots[1:]
	if heap.Free(g.h) != 0 || Left(g.h, g.l) < 10 {
		t.Fatalf("%d free, %d steps left", heap.Free(g.h), Left(g.h, g.l))
	}
	for len(g.l) > 0 {
		g.ended(t)
		g.step(t)
	}
	if heap.Free(heap.Settle(g.h)) < 3 {
		t.Errorf("%d free", heap.Free(heap.Settle(g.h)))
	}
}

// P11.4: what was given back is used again at once, ahead of what told it being gone: that stays as the others have it.
func TestReused(t *testing.T) {
	h := of(leaf(1, 1), leaf(1, 5), over(1, 1, 0, 5, 1))
	h, l := Steps(h, tasks(2), 3)
	if !slices.Equal(l, tasks(2+2i)) || !h.C[0].Pin {
		t.Fatalf("%v, tasks %v", h, l)
	}
	h, p, e := heap.Alloc(heap.Settle(h), api.Node{Leaf: true, It: []api.Item{{K: 8, V: 80}}}, nil)
	if e != api.OK || p != 0 {
		t.Fatalf("%d, %d", p, e)
	}
	got := trace(t, h, []int{0}, l, tasks(1, 2+3i), tasks(2+3i), nil)
	if !same(got, changed(h, map[int]api.Cell{1: pin, 2: pin})) {
		t.Error(got)
	}
}

// P11.2: drawn heaps that are right, but whose Refs tell nothing: each step comes to just what the words say.
func TestUnsound(t *testing.T) {
	done := 0
	for seed := range 1000 {
		pick := picker(seed)
		h, _ := heap.New(60, 0)
		g := &grove{h: h}
		for range 60 {
			g.change(t, pick, 40)
		}
		h, l := deep(g.h), tasks()
		var used []int
		for p := range h.C {
			if h.C[p].Ref > 0 {
				h.C[p].Ref = 1 + pick(3)*pick(2)
				used = append(used, p)
			}
		}
		for range pick(6) {
			if len(used) == 0 {
				break
			}
			t := complex(float64(used[pick(len(used))]), float64(pick(6)*pick(2)))
			if speaks(h, append(l, t), t) {
				l = append(l, t)
			}
		}
		for len(l) > 0 && spoken(h, l) {
			h, l = holds(t, h, l)
			done++
		}
	}
	if done < 2500 {
		t.Errorf("just %d steps", done)
	}
}

// The chapter's example: a root that is a leaf of Ref 1: one step, and it waits.
func TestExample(t *testing.T) {
	h, _ := heap.New(3, 0)
	h, root, _ := grow.Put(h, -1, 5, 50, false)
	l, e := Give(nil, root)
	if e != api.OK || Left(h, l) != 1 {
		t.Fatalf("%d, %d left", e, Left(h, l))
	}
	if got, m := Step(h, l); len(m) != 0 || !got.C[root].Pin || got.C[root].Ref != 0 || heap.Free(got) != 2 || heap.Free(heap.Settle(got)) != 3 {
		t.Errorf("%v, tasks %v", got, m)
	}
}

// R1: no call panics, and all end, at heaps, roots and tasks that may not be, too.
func TestEnds(t *testing.T) {
	odd := []float64{math.NaN(), math.Inf(1), math.Inf(-1), -1, -5, 0.5, 1, 3, 6, 2000, 65536, 1 << 62, 1 << 63, -1 << 63, 1e300, -math.MaxFloat64}
	var l []complex128
	for _, x := range odd {
		for _, y := range odd {
			l = append(l, complex(x, y), complex(0, y), complex(x, 0))
		}
	}
	for i, h := range []api.Heap{
		{}, {C: []api.Cell{}, Keep: -1}, some(), of(leaf(1, 1)), of(pin, pin), of(over(1, 1, 0, 2, 0, 3, 0, 4, 0)),
		of(over(-1, 1, 5), over(math.MinInt, 0, 0), over(1, 1, 99, 2, -1), over(1, 1, math.MinInt, 2, math.MaxInt), api.Cell{Ref: 1}, api.Cell{Ref: 1, Pin: true, N: leaf(1, 1).N}, leaf(0, 1), over(0, 1, 1)),
	} {
		was, wasL := deep(h), slices.Clone(l)
		for j := range l {
			Step(h, l[j:])
			Steps(h, l[j:j+1], 40)
		}
		for p := range h.C {
			for k := range 8 {
				Steps(h, tasks(complex(float64(p), float64(k))), 40)
			}
		}
		Steps(h, l, math.MaxInt)
		if n := Left(h, l); n < 1 || n > 20000 {
			t.Errorf("%d: %d left", i, n)
		}
		if !same(h, was) || !sameBits(l, wasL) {
			t.Fatalf("%d: what was handed in is changed", i)
		}
	}
	for _, r := range far {
		if got, e := Give(make([]complex128, 480), r); e != api.ErrFull || len(got) != 480 {
			t.Errorf("Give of %d: %d", r, e)
		}
		Give(nil, r)
	}
	// Tasks of no cell, and of cells that nothing refers to, are gone, and that is all.
	h := of(pin, api.Cell{}, leaf(1, 1))
	for _, p := range []complex128{0, 1, 3, -1, 2000, 7 + 3i} {
		if got, m := Step(h, tasks(p, 2)); !same(got, h) || !slices.Equal(m, tasks(2)) {
			t.Errorf("%v: %v, tasks %v", p, got, m)
		}
	}
}

// sameBits: are two rows the same, with parts that are no numbers among them?
func sameBits(a, b []complex128) bool {
	return slices.EqualFunc(a, b, func(x, y complex128) bool {
		return math.Float64bits(real(x)) == math.Float64bits(real(y)) && math.Float64bits(imag(x)) == math.Float64bits(imag(y))
	})
}

// R3: what is handed in isn't written into, not even behind its end, and isn't kept; what came out stays as it was.
func TestHandedIn(t *testing.T) {
	h := some()
	h.C = append(h.C, leaf(7, 7), pin)
	for p := range h.C {
		// Room behind each node's items, too.
		it := append(h.C[p].N.It, api.Item{K: -7}, api.Item{K: -8})
		h.C[p].N.It = it[:len(it)-2]
	}
	part := api.Heap{C: h.C[:13], Keep: 2}
	all := func() []api.Item {
		var l []api.Item
		for _, c := range h.C {
			l = append(l, c.N.It[:len(c.N.It)+2]...)
		}
		return l
	}
	room := tasks(6, 10, 3, -7, -8, -9, -10)
	was, wasAll, wasRoom := deep(h), all(), slices.Clone(room)
	var heaps []api.Heap
	var rows [][]complex128
	for many := range 4 {
		l := room[:many]
		for n := range 20 {
			x, m := Steps(part, l, n)
			a, _ := Give(m, 9)
			b, _ := Give(m, 8)
			heaps, rows = append(heaps, x), append(rows, m, a, b)
		}
		a, _ := Give(l, 9)
		b, _ := Give(l, -1)
		rows = append(rows, a, b)
	}
	handedIn := func() bool {
		return same(h, was) && slices.Equal(all(), wasAll) && slices.Equal(room, wasRoom)
	}
	if !handedIn() {
		t.Fatal("what was handed in is changed")
	}
	var heapsThen []api.Heap
	var rowsThen [][]complex128
	for _, x := range heaps {
		heapsThen = append(heapsThen, deep(x))
	}
	for _, m := range rows {
		rowsThen = append(rowsThen, slices.Clone(m))
	}
	for _, x := range heaps {
		for _, l := range rows {
			Step(x, l)
			Give(l, 5)
		}
		heap.Loose(x, 7)
	}
	if !handedIn() || !slices.EqualFunc(heaps, heapsThen, same) || !slices.EqualFunc(rows, rowsThen, slices.Equal[[]complex128]) {
		t.Fatal("what came out, or was handed in, is changed")
	}
}

// R4: the same arguments, the same answers.
func TestSameAnswers(t *testing.T) {
	h, l := some(), tasks(6, 8)
	x, m := Steps(h, l, 9)
	n := Left(h, l)
	for range 3 {
		Left(of(over(1, 1, 0)), tasks(1i))
		Step(x, m)
		y, o := Steps(deep(h), slices.Clone(l), 9)
		if !same(x, y) || !slices.Equal(m, o) || Left(h, l) != n {
			t.Fatal("another answer")
		}
	}
}
