package state

import (
	"math"
	"slices"
	"testing"

	"assart/api"
	"assart/audit"
	"assart/clean"
	"assart/grow"
	"assart/heap"
	"assart/prune"
	"assart/todo"
	"assart/tree"
)

const most = api.Most

// far are numbers that are no volume's, no key, and no value.
var far = []int{math.MinInt, math.MinInt + 1, -1 << 32, -1<<32 + 1, -1 << 31, -2001, -2, -1, 1 << 31, 1<<31 + 1, 1<<32 - 1, 1 << 32, 1<<32 + 1, math.MaxInt - 1, math.MaxInt}

// pin is a cell that waits for a commit.
var pin = api.Cell{Pin: true}

// item is a leaf's item of a key.
func item(k int) api.Item { return api.Item{K: k, V: (10*k + 1) % most} }

func items(k ...int) []api.Item {
	var l []api.Item
	for _, x := range k {
		l = append(l, item(x))
	}
	return l
}

// leaf is a cell with a leaf of these keys.
func leaf(ref int, k ...int) api.Cell {
	return api.Cell{Ref: ref, N: api.Node{Leaf: true, It: items(k...)}}
}

// over is a cell with a node that is no leaf, of these keys and places in turn.
func over(ref int, kp ...int) api.Cell {
	c := api.Cell{Ref: ref}
	for i := 0; i+1 < len(kp); i += 2 {
		c.N.It = append(c.N.It, api.Item{K: kp[i], V: kp[i+1]})
	}
	return c
}

// deep is a state's copy, in memory of its own.
func deep(s api.State) api.State {
	s.H.C = slices.Clone(s.H.C)
	for p := range s.H.C {
		s.H.C[p].N.It = slices.Clone(s.H.C[p].N.It)
	}
	s.V, s.L = slices.Clone(s.V), slices.Clone(s.L)
	return s
}

// same: are two states the same, all of them?
func same(a, b api.State) bool {
	cells := slices.EqualFunc(a.H.C, b.H.C, func(x, y api.Cell) bool {
		return x.Ref == y.Ref && x.Pin == y.Pin && x.N.Leaf == y.N.Leaf && slices.Equal(x.N.It, y.N.It)
	})
	return cells && a.H.Keep == b.H.Keep && slices.Equal(a.V, b.V) && slices.Equal(a.L, b.L) && a.Next == b.Next && a.Gen == b.Gen
}

// with is a state's copy with other cells at some places.
func with(s api.State, cells map[int]api.Cell) api.State {
	s = deep(s)
	for p, c := range cells {
		s.H.C[p] = c
	}
	return s
}

// roomy is a state's copy with so many free cells more behind the others.
func roomy(s api.State, n int) api.State {
	s = deep(s)
	s.H.C = append(s.H.C, make([]api.Cell, n)...)
	return s
}

// picker is a row of numbers that look as if they were drawn; the same for the same seed.
func picker(seed int) func(n int) int {
	x := uint64(seed)*2654435761 + 12345
	return func(n int) int {
		x = x*6364136223846793005 + 1442695040888963407
		return int(x>>33) % n
	}
}

// whole is all a tree's items, its leaves' ones in a row.
func whole(h api.Heap, root int) []api.Item {
	if root == -1 {
		return nil
	}
	n := h.C[root].N
	if n.Leaf {
		return slices.Clone(n.It)
	}
	var l []api.Item
	for _, x := range n.It {
		l = append(l, whole(h, x.V)...)
	}
	return l
}

// place is where a volume stands, or -1.
func place(s api.State, id int) int {
	for i, v := range s.V {
		if v.Id == id {
			return i
		}
	}
	return -1
}

// created is Create, worked out apart from it, by the words alone.
func created(s api.State) (api.State, int, api.Errno) { return another(s, -1) }

// snapped is Snap, likewise.
func snapped(s api.State, id int) (api.State, int, api.Errno) {
	i := place(s, id)
	if i < 0 {
		return s, 0, api.ErrNone
	}
	return another(s, s.V[i].Root)
}

// another is a volume more of a root.
func another(s api.State, root int) (api.State, int, api.Errno) {
	if len(s.V) == 20 || s.Next == 1<<31-1 {
		return s, 0, api.ErrFull
	}
	s = deep(s)
	s.V = append(s.V, api.Vol{Id: s.Next, Root: root})
	s.Next++
	if root >= 0 {
		s.H.C[root].Ref++
	}
	return s, s.Next - 1, api.OK
}

// dropped is Drop, likewise.
func dropped(s api.State, id int) (api.State, api.Errno) {
	i := place(s, id)
	if i < 0 {
		return s, api.ErrNone
	}
	root := s.V[i].Root
	if root >= 0 && len(s.L) >= 480 {
		return s, api.ErrFull
	}
	s = deep(s)
	s.V = append(s.V[:i], s.V[i+1:]...)
	if root >= 0 {
		s.L = append(s.L, complex(float64(root), 0))
	}
	return s, api.OK
}

// put is Put, likewise; what a tree's Put is, chapter 9 says.
func put(s api.State, id, key, val int, deepToo bool) (api.State, api.Errno) {
	i := place(s, id)
	if i < 0 {
		return s, api.ErrNone
	}
	h, root, e := grow.Put(deep(s).H, s.V[i].Root, key, val, deepToo)
	return planted(s, i, h, root, e)
}

// del is Del, likewise; what a tree's Del is, chapter 10 says.
func del(s api.State, id, key int) (api.State, api.Errno) {
	i := place(s, id)
	if i < 0 {
		return s, api.ErrNone
	}
	h, root, e := prune.Del(deep(s).H, s.V[i].Root, key)
	return planted(s, i, h, root, e)
}

// planted is a state with another tree of a volume.
func planted(s api.State, i int, h api.Heap, root int, e api.Errno) (api.State, api.Errno) {
	if e != api.OK {
		return s, e
	}
	s = deep(s)
	s.H, s.V[i].Root = h, root
	return s, api.OK
}

// stepped is Step, likewise; what a step is, chapter 11 says.
func stepped(s api.State) api.State {
	s = deep(s)
	s.H, s.L = clean.Step(s.H, s.L)
	return s
}

// right: is a state right, by the chapter's words?
func right(s api.State) bool {
	if !heap.Right(s.H) || !todo.Right(s.L, len(s.H.C)) || len(s.V) > 20 || s.Next < 1 || s.Next > most || s.Gen < 0 || s.Gen > most {
		return false
	}
	below, roots := 0, []int{}
	for _, v := range s.V {
		if v.Id <= below || v.Id >= s.Next || !tree.Right(s.H, v.Root) {
			return false
		}
		below, roots = v.Id, append(roots, v.Root)
	}
	for _, t := range s.L {
		if !rightTask(s, t) {
			return false
		}
	}
	return audit.Sound(s.H, roots, s.L)
}

// rightTask: is a task such as the words of chapters 8 and 11 ask?
func rightTask(s api.State, t complex128) bool {
	p := int(real(t))
	if imag(t) == 0 {
		return tree.Right(s.H, p)
	}
	c := s.H.C[p]
	if c.Ref != 1 || c.N.Leaf {
		return false
	}
	for _, x := range c.N.It[min(audit.Given(s.L, p), len(c.N.It)):] {
		if !tree.Right(s.H, x.V) {
			return false
		}
	}
	return true
}

// wants holds a state and an error that came out against what was worked out apart, and that both it and what was handed in are right yet.
func wants(t *testing.T, what string, s, was, got api.State, e api.Errno, want api.State, f api.Errno) {
	t.Helper()
	if !same(s, was) {
		t.Fatalf("%s: what was handed in is changed", what)
	}
	if e != f || !same(got, want) {
		t.Fatalf("%s of %v: %d, %v; not %d, %v", what, s, e, got, f, want)
	}
	if len(s.L) <= 480 && !right(got) {
		t.Fatalf("%s of %v: %v isn't right", what, s, got)
	}
}

// speaks: does the chapter speak of this state?
func speaks(t *testing.T, s api.State) {
	t.Helper()
	if !right(s) {
		t.Fatalf("the chapter doesn't speak of %v", s)
	}
}

func holdsCreate(t *testing.T, s api.State) (api.State, int, api.Errno) {
	t.Helper()
	speaks(t, s)
	was := deep(s)
	want, m, f := created(s)
	got, n, e := Create(s)
	wants(t, "Create", s, was, got, e, want, f)
	if n != m {
		t.Fatalf("Create: %d, not %d", n, m)
	}
	return got, n, e
}

func holdsSnap(t *testing.T, s api.State, id int) (api.State, int, api.Errno) {
	t.Helper()
	speaks(t, s)
	was := deep(s)
	want, m, f := snapped(s, id)
	got, n, e := Snap(s, id)
	wants(t, "Snap", s, was, got, e, want, f)
	if n != m {
		t.Fatalf("Snap of %d: %d, not %d", id, n, m)
	}
	return got, n, e
}

func holdsDrop(t *testing.T, s api.State, id int) (api.State, api.Errno) {
	t.Helper()
	speaks(t, s)
	was := deep(s)
	want, f := dropped(s, id)
	got, e := Drop(s, id)
	wants(t, "Drop", s, was, got, e, want, f)
	return got, e
}

func holdsPut(t *testing.T, s api.State, id, key, val int, deepToo bool) (api.State, api.Errno) {
	t.Helper()
	speaks(t, s)
	was := deep(s)
	want, f := put(s, id, key, val, deepToo)
	got, e := Put(s, id, key, val, deepToo)
	wants(t, "Put", s, was, got, e, want, f)
	return got, e
}

func holdsDel(t *testing.T, s api.State, id, key int) (api.State, api.Errno) {
	t.Helper()
	speaks(t, s)
	was := deep(s)
	want, f := del(s, id, key)
	got, e := Del(s, id, key)
	wants(t, "Del", s, was, got, e, want, f)
	return got, e
}

func holdsStep(t *testing.T, s api.State) api.State {
	t.Helper()
	speaks(t, s)
	was := deep(s)
	got := Step(s)
	wants(t, "Step", s, was, got, api.OK, stepped(s), api.OK)
	return got
}

// has holds the items of a volume.
func has(t *testing.T, s api.State, id int, want []api.Item) {
	t.Helper()
	was := deep(s)
	if got, e := Items(s, id); e != api.OK || !slices.Equal(got, want) {
		t.Fatalf("volume %d of %v: %d, %v; not %v", id, s, e, got, want)
	}
	if !same(s, was) {
		t.Fatalf("Items of %d: what was handed in is changed", id)
	}
}

// some is a right state: volumes 2, 5, 6 and 9, of which 2 and 9 have one tree, 5 has none, and 6 shares a leaf with the others; two tasks, one of them of a tree that shares that leaf, too; free cells, and one that waits.
func some() api.State {
	return api.State{
		H: api.Heap{Keep: 3, C: []api.Cell{
			leaf(3, 1, 3),                          // 0
			leaf(1, 7),                             // 1
			over(2, 1, 0, 7, 1),                    // 2
			over(1, 1, 0, 9, 4),                    // 3
			leaf(1, 9, 11, 12, 13),                 // 4
			over(1, 1, 0, 20, 6),                   // 5
			leaf(1, 20),                            // 6
			pin,                                    // 7
			leaf(2, 40, 41),                        // 8
			{}, {}, {}, {}, {}, {}, {}, {}, {}, {}, // 9 to 18
		}},
		V:    []api.Vol{{Id: 2, Root: 2}, {Id: 5, Root: -1}, {Id: 6, Root: 3}, {Id: 9, Root: 2}},
		L:    []complex128{5, 8, 8},
		Next: 11,
		Gen:  4,
	}
}

// had is what the volumes of some have, by their numbers.
func had() map[int][]api.Item {
	return map[int][]api.Item{2: items(1, 3, 7), 5: nil, 6: items(1, 3, 9, 11, 12, 13), 9: items(1, 3, 7)}
}

// missing are numbers that no volume of some has.
func missing() []int {
	return append([]int{0, 1, 3, 4, 7, 8, 10, 11, 12, 19, 20, most - 1, most}, far...)
}

// many is a right state of so many volumes, from 1 on, each of a leaf of its own, and of the number behind them; and of free cells.
func many(n int) api.State {
	s := api.State{H: api.Heap{Keep: 1}, Next: n + 1, Gen: 7}
	for i := range n {
		s.H.C = append(s.H.C, leaf(1, i))
		s.V = append(s.V, api.Vol{Id: i + 1, Root: i})
	}
	return roomy(s, 5)
}

// behind is a right state behind so many tasks, all of the leaf 0, and with volumes 1, of a leaf, and 2, without a tree.
func behind(tasks int) api.State {
	s := api.State{H: api.Heap{C: []api.Cell{leaf(tasks, 1), leaf(1, 2), {}, {}, {}, {}}}, V: []api.Vol{{Id: 1, Root: 1}, {Id: 2, Root: -1}}, L: make([]complex128, tasks), Next: 3}
	if tasks == 0 {
		s.H.C[0] = api.Cell{}
	}
	return s
}

// P12.1: a new heap, without volumes and tasks, Next 1, Gen 0.
func TestNew(t *testing.T) {
	for _, n := range []int{1, 2, 3, 80, 1999, 2000} {
		for _, keep := range []int{0, 1, n / 2, n - 1, n} {
			want := api.State{H: api.Heap{C: make([]api.Cell, n), Keep: keep}, Next: 1}
			got, e := New(n, keep)
			if e != api.OK || !same(got, want) || len(got.V) != 0 || len(got.L) != 0 || !right(got) {
				t.Errorf("New(%d, %d): %d, %v", n, keep, e, got)
			}
		}
	}
}

// P12.1: ErrArg, and none, if there is no such heap.
func TestNewNone(t *testing.T) {
	type row struct{ n, keep int }
	l := []row{{0, 0}, {0, 1}, {-1, 0}, {-1, -1}, {1, 2}, {1, -1}, {80, 81}, {80, -1}, {2000, 2001}, {2000, -1}, {2001, 0}, {2001, 1}, {2001, 2001}, {2002, 5}, {4000, 1}, {most, 0}}
	for _, x := range far {
		l = append(l, row{x, 0}, row{x, x}, row{5, x}, row{2000, x}, row{0, x})
	}
	for _, x := range l {
		if got, e := New(x.n, x.keep); e != api.ErrArg || !same(got, api.State{}) {
			t.Errorf("New(%d, %d): %d, %v", x.n, x.keep, e, got)
		}
	}
}

// P12.1: the place of the volume of that number, and yes; 0, and no, if there is none.
func TestFind(t *testing.T) {
	s := some()
	for i, id := range []int{2, 5, 6, 9} {
		if at, is := Find(s, id); at != i || !is {
			t.Errorf("%d: %d, %t", id, at, is)
		}
	}
	for _, id := range missing() {
		if at, is := Find(s, id); at != 0 || is {
			t.Errorf("%d: %d, %t", id, at, is)
		}
	}
	s = many(20)
	for id := -1; id < 25; id++ {
		if at, is := Find(s, id); is != (id >= 1 && id <= 20) || is && at != id-1 || !is && at != 0 {
			t.Errorf("of 20: %d: %d, %t", id, at, is)
		}
	}
	s, _ = New(1, 0)
	for _, id := range append([]int{0, 1}, far...) {
		if at, is := Find(s, id); at != 0 || is {
			t.Errorf("of none: %d: %d, %t", id, at, is)
		}
	}
}

// P12.1: the roots of all volumes, in order, those of no tree, and those that two volumes have, among them.
func TestRoots(t *testing.T) {
	for i, x := range []struct {
		v    []api.Vol
		want []int
	}{
		{nil, nil}, {[]api.Vol{}, nil}, {some().V, []int{2, -1, 3, 2}},
		{[]api.Vol{{Id: 4, Root: -1}}, []int{-1}}, {[]api.Vol{{Id: 4, Root: 0}}, []int{0}},
		{[]api.Vol{{Id: 1, Root: 9}, {Id: 2, Root: 3}, {Id: 3, Root: 1999}, {Id: 8, Root: 3}}, []int{9, 3, 1999, 3}},
		{[]api.Vol{{Id: 1, Root: -1}, {Id: 2, Root: -1}}, []int{-1, -1}},
	} {
		s := some()
		s.V = x.v
		if got := Roots(s); !slices.Equal(got, x.want) {
			t.Errorf("%d: %v, not %v", i, got, x.want)
		}
	}
	s := many(20)
	if got := Roots(s); len(got) != 20 || got[0] != 0 || got[19] != 19 {
		t.Errorf("of 20: %v", got)
	}
}

// P12.2: a volume more, behind all, of the number Next, without a tree; Next is one more, and all else as it was.
func TestCreate(t *testing.T) {
	s, _ := New(2, 1)
	for i := 1; i <= 20; i++ {
		got, id, e := holdsCreate(t, s)
		if e != api.OK || id != i || got.Next != i+1 || len(got.V) != i || got.V[i-1] != (api.Vol{Id: i, Root: -1}) {
			t.Fatalf("the %dth: %d, %d: %v", i, id, e, got)
		}
		s = got
	}
	s = some()
	want := deep(s)
	want.V, want.Next = []api.Vol{{Id: 2, Root: 2}, {Id: 5, Root: -1}, {Id: 6, Root: 3}, {Id: 9, Root: 2}, {Id: 11, Root: -1}}, 12
	got, id, e := holdsCreate(t, s)
	if e != api.OK || id != 11 || !same(got, want) {
		t.Errorf("some: %d, %d: %v", id, e, got)
	}
	has(t, got, 11, nil)
	// A number that was a volume's is none's again, the last one's, and the only one's, too.
	for _, id := range []int{2, 9} {
		got, _ := Drop(s, id)
		if _, n, e := holdsCreate(t, got); n != 11 || e != api.OK {
			t.Errorf("behind a drop of %d: %d, %d", id, n, e)
		}
	}
	s, _ = New(2, 1)
	for i := 1; i < 30; i++ {
		var id int
		if s, id, e = holdsCreate(t, s); id != i || e != api.OK {
			t.Errorf("the %dth: %d, %d", i, id, e)
		}
		s, _ = holdsDrop(t, s, id)
	}
}

// P12.2: ErrFull, the state and 0, of 20 volumes, not of 19; and if Next is Most, not at one less.
func TestCreateFull(t *testing.T) {
	got, id, e := holdsCreate(t, many(19))
	if e != api.OK || id != 20 || len(got.V) != 20 {
		t.Errorf("behind 19: %d, %d", id, e)
	}
	for _, s := range []api.State{got, many(20)} {
		if got, id, e := holdsCreate(t, s); e != api.ErrFull || id != 0 || !same(got, s) {
			t.Errorf("behind 20: %d, %d", id, e)
		}
	}
	// Where one is gone, there is room for one.
	s, _ := holdsDrop(t, many(20), 7)
	if s, id, e := holdsCreate(t, s); e != api.OK || id != 21 || s.V[19].Id != 21 {
		t.Errorf("behind 20, and without one: %d, %d", id, e)
	}
	for _, n := range []int{0, 1, 19, 20} {
		s := many(n)
		s.Next = most - 1
		if got, id, e := holdsCreate(t, s); n < 20 {
			if e != api.OK || id != most-1 || got.Next != most || got.V[n].Id != most-1 {
				t.Errorf("%d volumes, Next one less than Most: %d, %d", n, id, e)
			}
			if more, id, e := holdsCreate(t, got); e != api.ErrFull || id != 0 || !same(more, got) {
				t.Errorf("%d volumes, behind that: %d, %d", n, id, e)
			}
		}
		s.Next = most
		if got, id, e := holdsCreate(t, s); e != api.ErrFull || id != 0 || !same(got, s) {
			t.Errorf("%d volumes, Next Most: %d, %d", n, id, e)
		}
	}
}

// P12.2: a volume more, whose tree is that one's, whose root has a Ref more; worked out by hand.
func TestSnap(t *testing.T) {
	s := some()
	for _, x := range []struct {
		id, root int
		cells    map[int]api.Cell // of those whose cells are other ones than they were
	}{
		{2, 2, map[int]api.Cell{2: over(3, 1, 0, 7, 1)}},
		{5, -1, nil},
		{6, 3, map[int]api.Cell{3: over(2, 1, 0, 9, 4)}},
		{9, 2, map[int]api.Cell{2: over(3, 1, 0, 7, 1)}},
	} {
		want := with(s, x.cells)
		want.V, want.Next = append(want.V, api.Vol{Id: 11, Root: x.root}), 12
		got, id, e := holdsSnap(t, s, x.id)
		if e != api.OK || id != 11 || !same(got, want) {
			t.Errorf("%d: %d, %d: %v, not %v", x.id, id, e, got, want)
		}
		has(t, got, 11, had()[x.id])
		has(t, got, x.id, had()[x.id])
		// Of a snapshot, and of the volume once more.
		again, id, e := holdsSnap(t, got, 11)
		if e != api.OK || id != 12 || again.V[5] != (api.Vol{Id: 12, Root: x.root}) {
			t.Errorf("of the snapshot of %d: %d, %d", x.id, id, e)
		}
		if again, id, e = holdsSnap(t, again, x.id); e != api.OK || id != 13 || again.V[6] != (api.Vol{Id: 13, Root: x.root}) || x.root >= 0 && again.H.C[x.root].Ref != s.H.C[x.root].Ref+3 {
			t.Errorf("of %d again: %d, %d", x.id, id, e)
		}
	}
}

// P12.2: of a root to which another tree's node, or a task, refers, too; what is below has the Refs that it had.
func TestSnapHeld(t *testing.T) {
	s := api.State{H: api.Heap{C: []api.Cell{leaf(1, 1), over(3, 1, 0), over(1, 1, 1)}}, V: []api.Vol{{Id: 1, Root: 2}, {Id: 2, Root: 1}}, L: []complex128{1}, Next: 3}
	want := deep(s)
	want.H.C[1].Ref, want.V, want.Next = 4, append(want.V, api.Vol{Id: 3, Root: 1}), 4
	if got, id, e := holdsSnap(t, s, 2); e != api.OK || id != 3 || !same(got, want) {
		t.Errorf("%d, %d: %v", id, e, got)
	}
	// No cell is needed for it, and a cell that isn't free, or kept, is none that is missing.
	s.H.Keep = 3
	if _, id, e := holdsSnap(t, s, 2); e != api.OK || id != 3 {
		t.Errorf("kept: %d, %d", id, e)
	}
	// The place 0 is a root as others are.
	if got, id, e := holdsSnap(t, many(3), 1); e != api.OK || id != 4 || got.V[3].Root != 0 || got.H.C[0].Ref != 2 {
		t.Errorf("the root 0: %d, %d", id, e)
	}
}

// P12.2: ErrNone, the state and 0, if there is no such volume, where there is no room for one, either.
func TestSnapNone(t *testing.T) {
	full, last := many(20), some()
	full.Next, last.Next = 30, most
	for _, id := range missing() {
		if got, n, e := holdsSnap(t, some(), id); e != api.ErrNone || n != 0 || !same(got, some()) {
			t.Errorf("%d: %d, %d", id, n, e)
		}
		if got, n, e := holdsSnap(t, last, id); e != api.ErrNone || n != 0 || !same(got, last) {
			t.Errorf("%d, Next Most: %d, %d", id, n, e)
		}
	}
	for _, id := range append([]int{0, 21, 29, 30, 31}, far...) {
		if got, n, e := holdsSnap(t, full, id); e != api.ErrNone || n != 0 || !same(got, full) {
			t.Errorf("%d, of 20: %d, %d", id, n, e)
		}
	}
	s, _ := New(5, 0)
	for _, id := range append([]int{0, 1}, far...) {
		if got, n, e := holdsSnap(t, s, id); e != api.ErrNone || n != 0 || !same(got, s) {
			t.Errorf("%d, of none: %d, %d", id, n, e)
		}
	}
	// One that was dropped: the first one, the last one, one in the midst.
	for _, id := range []int{2, 5, 6, 9} {
		s, _ := holdsDrop(t, some(), id)
		if got, n, e := holdsSnap(t, s, id); e != api.ErrNone || n != 0 || !same(got, s) {
			t.Errorf("%d, dropped: %d, %d", id, n, e)
		}
	}
}

// P12.2: ErrFull, the state and 0, of 20 volumes, not of 19, and if Next is Most, not at one less; with a tree or without one.
func TestSnapFull(t *testing.T) {
	for _, root := range []int{-1, 0} {
		bare := func(n int) api.State {
			s := many(n)
			if root == -1 {
				s.V[0].Root, s.H.C[0] = -1, api.Cell{}
			}
			return s
		}
		got, id, e := holdsSnap(t, bare(19), 1)
		if e != api.OK || id != 20 || len(got.V) != 20 || got.V[19].Root != root {
			t.Errorf("of 19: %d, %d", id, e)
		}
		for _, of := range []int{1, 2, 20} {
			for _, s := range []api.State{got, bare(20)} {
				if x, id, e := holdsSnap(t, s, of); e != api.ErrFull || id != 0 || !same(x, s) {
					t.Errorf("of 20: %d, %d", id, e)
				}
			}
		}
		s := bare(4)
		s.Next = most - 1
		if got, id, e = holdsSnap(t, s, 1); e != api.OK || id != most-1 || got.Next != most || got.V[4] != (api.Vol{Id: most - 1, Root: root}) {
			t.Errorf("Next one less than Most: %d, %d", id, e)
		}
		for _, of := range []int{1, 2, most - 1} {
			if x, id, e := holdsSnap(t, got, of); e != api.ErrFull || id != 0 || !same(x, got) {
				t.Errorf("Next Most, of %d: %d, %d", of, id, e)
			}
		}
	}
}

// P12.3: without that volume, the others in order, and its root's task behind all tasks; worked out by hand.
func TestDrop(t *testing.T) {
	s := some()
	for _, x := range []struct {
		id int
		v  []api.Vol
		l  []complex128
	}{
		{2, []api.Vol{{Id: 5, Root: -1}, {Id: 6, Root: 3}, {Id: 9, Root: 2}}, []complex128{5, 8, 8, 2}},
		{5, []api.Vol{{Id: 2, Root: 2}, {Id: 6, Root: 3}, {Id: 9, Root: 2}}, []complex128{5, 8, 8}},
		{6, []api.Vol{{Id: 2, Root: 2}, {Id: 5, Root: -1}, {Id: 9, Root: 2}}, []complex128{5, 8, 8, 3}},
		{9, []api.Vol{{Id: 2, Root: 2}, {Id: 5, Root: -1}, {Id: 6, Root: 3}}, []complex128{5, 8, 8, 2}},
	} {
		want := deep(s)
		want.V, want.L = x.v, x.l
		got, e := holdsDrop(t, s, x.id)
		if e != api.OK || !same(got, want) {
			t.Errorf("%d: %d: %v, not %v", x.id, e, got, want)
		}
		// It is gone at once.
		if at, is := Find(got, x.id); at != 0 || is {
			t.Errorf("%d is at %d yet", x.id, at)
		}
		if l, e := Items(got, x.id); e != api.ErrNone || len(l) != 0 {
			t.Errorf("%d has %v yet", x.id, l)
		}
		for _, v := range x.v {
			has(t, got, v.Id, had()[v.Id])
		}
		if again, e := holdsDrop(t, got, x.id); e != api.ErrNone || !same(again, got) {
			t.Errorf("%d once more: %d", x.id, e)
		}
	}
	// The only one, and all, one by one.
	for _, l := range [][]int{{2, 5, 6, 9}, {9, 6, 5, 2}, {6, 2, 9, 5}} {
		s := some()
		for i, id := range l {
			var e api.Errno
			if s, e = holdsDrop(t, s, id); e != api.OK || len(s.V) != 3-i {
				t.Fatalf("%v: %d: %d", l, id, e)
			}
		}
		if len(s.L) != 6 || s.Next != 11 {
			t.Errorf("%v: tasks %v, Next %d", l, s.L, s.Next)
		}
	}
}

// P12.3: ErrFull, and the state, behind 480 tasks, not behind 479.
func TestDropFull(t *testing.T) {
	for _, n := range []int{0, 1, 478, 479} {
		s := behind(n)
		if got, e := holdsDrop(t, s, 1); e != api.OK || len(got.L) != n+1 || got.L[n] != 1 || len(got.V) != 1 {
			t.Errorf("behind %d tasks: %d", n, e)
		}
	}
	for _, n := range []int{480, 481, 499, 500} {
		s := behind(n)
		if got, e := holdsDrop(t, s, 1); e != api.ErrFull || !same(got, s) {
			t.Errorf("behind %d tasks: %d", n, e)
		}
	}
	s, _ := holdsDrop(t, behind(479), 1)
	s, id, _ := holdsCreate(t, s)
	s, _ = holdsPut(t, s, id, 1, 1, true)
	if got, e := holdsDrop(t, s, id); e != api.ErrFull || !same(got, s) {
		t.Errorf("behind the 480th: %d", e)
	}
	// A step, and there is room again.
	if got, e := holdsDrop(t, holdsStep(t, s), id); e != api.OK || len(got.L) != 480 {
		t.Errorf("behind the 480th, and a step: %d", e)
	}
}

// P12.3: of a volume without a tree nothing is to be given back: chapter 11's Give tells no ErrFull, however many tasks there are.
func TestDropNoTree(t *testing.T) {
	for _, n := range []int{0, 1, 479, 480, 481, 500} {
		s := behind(n)
		want := deep(s)
		want.V = want.V[:1]
		if got, e := holdsDrop(t, s, 2); e != api.OK || !same(got, want) {
			t.Errorf("behind %d tasks: %d", n, e)
		}
	}
}

// P12.3: ErrNone, and the state, if there is no such volume, behind 480 tasks, too.
func TestDropNone(t *testing.T) {
	for _, id := range missing() {
		if got, e := holdsDrop(t, some(), id); e != api.ErrNone || !same(got, some()) {
			t.Errorf("%d: %d", id, e)
		}
	}
	for _, id := range append([]int{0, 3, 4}, far...) {
		for _, n := range []int{0, 480, 500} {
			if got, e := holdsDrop(t, behind(n), id); e != api.ErrNone || !same(got, behind(n)) {
				t.Errorf("%d, behind %d tasks: %d", id, n, e)
			}
		}
	}
	s, _ := New(5, 0)
	if got, e := holdsDrop(t, s, 1); e != api.ErrNone || !same(got, s) {
		t.Errorf("of none: %d", e)
	}
}

// P12.4: the volume's tree has the item, and no other one; worked out by hand.
func TestPut(t *testing.T) {
	s := roomy(some(), 10)
	s.H.Keep = 0
	for i, x := range []struct {
		id, key, root int
		cells         map[int]api.Cell // of those whose cells are other ones than they were
	}{
		{5, 30, 9, map[int]api.Cell{9: leaf(1, 30)}},
		{5, 0, 9, map[int]api.Cell{9: leaf(1, 0)}},
		{5, most, 9, map[int]api.Cell{9: leaf(1, most)}},
		{2, 8, 10, map[int]api.Cell{9: leaf(1, 7, 8), 10: over(1, 1, 0, 7, 9), 0: leaf(4, 1, 3), 2: over(1, 1, 0, 7, 1)}},
		{9, 8, 10, map[int]api.Cell{9: leaf(1, 7, 8), 10: over(1, 1, 0, 7, 9), 0: leaf(4, 1, 3), 2: over(1, 1, 0, 7, 1)}},
		{6, 2, 10, map[int]api.Cell{9: leaf(1, 1, 2, 3), 10: over(1, 1, 9, 9, 4), 0: leaf(2, 1, 3), 3: pin}},
		{6, 10, 11, map[int]api.Cell{9: leaf(1, 9, 10, 11), 10: leaf(1, 12, 13), 11: over(1, 1, 0, 9, 9, 12, 10), 3: pin, 4: pin}},
	} {
		want := with(s, x.cells)
		want.V[place(s, x.id)].Root = x.root
		for _, deepToo := range []bool{false, true} {
			got, e := holdsPut(t, s, x.id, x.key, item(x.key).V, deepToo)
			if e != api.OK || !same(got, want) {
				t.Errorf("%d, %t: %d: %v, not %v", i, deepToo, e, got, want)
			}
			for id, l := range had() {
				if id == x.id {
					l = append(slices.Clone(l), item(x.key))
					slices.SortFunc(l, func(a, b api.Item) int { return a.K - b.K })
				}
				has(t, got, id, l)
			}
		}
	}
	// Another value of a key that is there.
	for _, val := range []int{0, 5, most} {
		got, e := holdsPut(t, s, 9, 3, val, false)
		if e != api.OK {
			t.Errorf("%d: %d", val, e)
		}
		has(t, got, 9, []api.Item{item(1), {K: 3, V: val}, item(7)})
		has(t, got, 2, items(1, 3, 7))
	}
}

// P12.4: ErrNone, and the state, if there is no such volume, whatever else is wrong.
func TestPutNone(t *testing.T) {
	full := some()
	full.H.C = full.H.C[:9]
	for _, s := range []api.State{some(), full} {
		for _, id := range missing() {
			for _, x := range []api.Item{{K: 1, V: 1}, {K: -1, V: 1}, {K: 1, V: -1}, {K: most + 1, V: 1}} {
				for _, deepToo := range []bool{false, true} {
					if got, e := holdsPut(t, s, id, x.K, x.V, deepToo); e != api.ErrNone || !same(got, s) {
						t.Errorf("%d, %v: %d", id, x, e)
					}
				}
			}
		}
	}
	s, _ := holdsDrop(t, some(), 6)
	if got, e := holdsPut(t, s, 6, 1, 1, true); e != api.ErrNone || !same(got, s) {
		t.Errorf("dropped: %d", e)
	}
}

// P12.4: ErrArg, and the state, of a key or a value that may not be, where there is no room, either.
func TestPutArg(t *testing.T) {
	full := some()
	full.H.C = full.H.C[:9]
	for _, s := range []api.State{some(), full} {
		for id := range had() {
			for _, x := range far {
				for _, deepToo := range []bool{false, true} {
					for _, y := range []api.Item{{K: x, V: 1}, {K: 1, V: x}, {K: x, V: x}} {
						if got, e := holdsPut(t, s, id, y.K, y.V, deepToo); e != api.ErrArg || !same(got, s) {
							t.Errorf("%d, %v: %d", id, y, e)
						}
					}
				}
			}
		}
	}
}

// P12.4: ErrFull, and the state, of a put that fits no more: there must be room for 5 nodes, or 1 of no tree, without what is kept, unless it is deep; what waits is no room.
func TestPutFull(t *testing.T) {
	for id, need := range map[int]int{2: 5, 5: 1, 6: 5, 9: 5} {
		for free := range 9 {
			for keep := range 5 {
				s := some()
				s.H.C, s.H.Keep = s.H.C[:9+free], keep
				for _, deepToo := range []bool{false, true} {
					room := free
					if !deepToo {
						room -= keep
					}
					got, e := holdsPut(t, s, id, 8, 80, deepToo)
					if room < need && (e != api.ErrFull || !same(got, s)) || room >= need && e != api.OK {
						t.Errorf("%d, %d free, %d kept, deep %t: %d", id, free, keep, deepToo, e)
					}
				}
			}
		}
	}
}

// chain is a right state of one volume, 1, whose tree is so high, each of its nodes but a leaf of one item; and of free cells.
func chain(high int, k ...int) api.State {
	s := api.State{H: api.Heap{C: []api.Cell{leaf(1, k...)}}, V: []api.Vol{{Id: 1, Root: high - 1}}, Next: 2}
	for p := range high - 1 {
		s.H.C = append(s.H.C, over(1, k[0], p))
	}
	return roomy(s, 45)
}

// P12.4: ErrFull, and the state, of a tree that may not be higher, whatever room there is.
func TestPutHigh(t *testing.T) {
	for _, deepToo := range []bool{false, true} {
		if got, e := holdsPut(t, chain(19, 5, 6), 1, 7, 70, deepToo); e != api.OK || len(whole(got.H, got.V[0].Root)) != 3 {
			t.Errorf("19 high: %d", e)
		}
		if got, e := holdsPut(t, chain(20, 5, 6), 1, 7, 70, deepToo); e != api.ErrFull || !same(got, chain(20, 5, 6)) {
			t.Errorf("20 high: %d", e)
		}
	}
	if got, e := holdsDel(t, chain(20, 5, 6), 1, 6); e != api.OK || got.H.C[got.V[0].Root].N.Leaf != true {
		t.Errorf("20 high, Del: %d", e)
	}
}

// P12.4: the volume's tree is without the item, and no other one; worked out by hand.
func TestDel(t *testing.T) {
	s := some()
	for i, x := range []struct {
		id, key, root int
		cells         map[int]api.Cell // of those whose cells are other ones than they were
	}{
		{2, 7, 0, map[int]api.Cell{0: leaf(4, 1, 3), 2: over(1, 1, 0, 7, 1), 9: pin}},
		{9, 7, 0, map[int]api.Cell{0: leaf(4, 1, 3), 2: over(1, 1, 0, 7, 1), 9: pin}},
		{9, 1, 10, map[int]api.Cell{1: leaf(2, 7), 2: over(1, 1, 0, 7, 1), 9: leaf(1, 3), 10: over(1, 3, 9, 7, 1)}},
		{6, 3, 10, map[int]api.Cell{0: leaf(2, 1, 3), 3: pin, 9: leaf(1, 1), 10: over(1, 1, 9, 9, 4)}},
		{6, 12, 10, map[int]api.Cell{4: pin, 3: pin, 9: leaf(1, 9, 11, 13), 10: over(1, 1, 0, 9, 9)}},
	} {
		want := with(s, x.cells)
		want.V[place(s, x.id)].Root = x.root
		got, e := holdsDel(t, s, x.id, x.key)
		if e != api.OK || !same(got, want) {
			t.Errorf("%d: %d: %v, not %v", i, e, got, want)
		}
		for id, l := range had() {
			if id == x.id {
				l = slices.DeleteFunc(l, func(y api.Item) bool { return y.K == x.key })
			}
			has(t, got, id, l)
		}
	}
}

// P12.4: without its last item a volume has no tree; it is there yet.
func TestDelLast(t *testing.T) {
	for _, k := range []int{0, 5, most} {
		for high := 1; high <= 20; high++ {
			s := chain(high, k)
			want := deep(s)
			want.V[0].Root = -1
			for p := range high {
				want.H.C[p] = pin
			}
			got, e := holdsDel(t, s, 1, k)
			if e != api.OK || !same(got, want) {
				t.Errorf("%d, %d high: %d: %v", k, high, e, got)
			}
			has(t, got, 1, nil)
			if again, e := holdsDel(t, got, 1, k); e != api.ErrNone || !same(again, got) {
				t.Errorf("%d, %d high, once more: %d", k, high, e)
			}
			if got, e = holdsPut(t, got, 1, k, 7, false); e != api.OK {
				t.Errorf("%d, %d high, put again: %d", k, high, e)
			}
			has(t, got, 1, []api.Item{{K: k, V: 7}})
		}
	}
}

// P12.4: ErrNone, and the state, if there is no such volume, or item, where there is no room, either.
func TestDelNone(t *testing.T) {
	full := some()
	full.H.C = full.H.C[:9]
	for _, s := range []api.State{some(), full} {
		for _, id := range missing() {
			for _, k := range []int{1, 3, 7, 9, -1} {
				if got, e := holdsDel(t, s, id, k); e != api.ErrNone || !same(got, s) {
					t.Errorf("%d, %d: %d", id, k, e)
				}
			}
		}
		for id, l := range had() {
			for _, k := range append([]int{0, 2, 4, 5, 6, 8, 10, 14, 20, 40, most}, far...) {
				if got, e := holdsDel(t, s, id, k); e != api.ErrNone || !same(got, s) {
					t.Errorf("%d, %d: %d", id, k, e)
				}
			}
			// What another volume has is none of this one's.
			for _, other := range had() {
				for _, x := range other {
					if !slices.Contains(l, x) {
						if got, e := holdsDel(t, s, id, x.K); e != api.ErrNone || !same(got, s) {
							t.Errorf("%d, %d: %d", id, x.K, e)
						}
					}
				}
			}
		}
	}
}

// P12.4: ErrFull, and the state, where there isn't a free cell, kept ones, too, for each node on the way.
func TestDelFull(t *testing.T) {
	for _, id := range []int{2, 6, 9} {
		for free := range 4 {
			for _, keep := range []int{0, 1, 9} {
				s := some()
				s.H.C, s.H.Keep = s.H.C[:9+free], keep
				for _, k := range []int{1, 3} {
					got, e := holdsDel(t, s, id, k)
					if free < 2 && (e != api.ErrFull || !same(got, s)) || free >= 2 && e != api.OK {
						t.Errorf("%d, %d free, %d kept: %d", id, free, keep, e)
					}
				}
			}
		}
	}
}

// P12.4: all items of the volume's tree, by their keys; ErrNone, and nothing, if there is no such volume.
func TestItems(t *testing.T) {
	s := some()
	for id, l := range had() {
		has(t, s, id, l)
	}
	for _, id := range missing() {
		if l, e := Items(s, id); e != api.ErrNone || len(l) != 0 {
			t.Errorf("%d: %d, %v", id, e, l)
		}
	}
	// The least key, and the greatest one, too.
	s = chain(3, 0, 1, most-1, most)
	has(t, s, 1, items(0, 1, most-1, most))
	has(t, chain(1, most), 1, items(most))
	has(t, chain(1, 0), 1, items(0))
	s, _ = New(3, 0)
	if l, e := Items(s, 1); e != api.ErrNone || len(l) != 0 {
		t.Errorf("of none: %d, %v", e, l)
	}
	for _, n := range []int{1, 20} {
		s := many(n)
		has(t, s, 1, items(0))
		has(t, s, n, items(n-1))
	}
}

// P12.4: of many items, put in any order.
func TestItemsMany(t *testing.T) {
	s, _ := New(2000, 0)
	s, id, _ := Create(s)
	var want []api.Item
	for i := range 600 {
		k := i * 7919 % 601
		var e api.Errno
		if s, e = Put(s, id, k*1000, k, false); e != api.OK {
			t.Fatalf("%d: %d", i, e)
		}
		s.H = heap.Settle(s.H)
		want = append(want, api.Item{K: k * 1000, V: k})
	}
	slices.SortFunc(want, func(a, b api.Item) int { return a.K - b.K })
	speaks(t, s)
	has(t, s, id, want)
	// However large it is, a snapshot is a Ref more, and a drop a task.
	s, snap, e := holdsSnap(t, s, id)
	if e != api.OK {
		t.Fatal(e)
	}
	s, e = holdsDrop(t, s, id)
	if e != api.OK || len(s.L) != 1 {
		t.Fatal(e)
	}
	has(t, s, snap, want)
	if s, e = holdsDrop(t, s, snap); e != api.OK || len(s.L) != 2 || len(s.V) != 0 {
		t.Fatal(e)
	}
	n := clean.Left(s.H, s.L)
	for range n {
		s = Step(s)
	}
	if len(s.L) != 0 || heap.Free(heap.Settle(s.H)) != 2000 {
		t.Errorf("behind %d steps: %d tasks, %d free", n, len(s.L), heap.Free(heap.Settle(s.H)))
	}
}

// P12.4: a step: of the first task, and of nothing, if there is none.
func TestStep(t *testing.T) {
	s := some()
	s.L = nil
	s.H.C[5], s.H.C[6], s.H.C[8], s.H.C[0].Ref = pin, pin, pin, 2
	if got := holdsStep(t, s); !same(got, s) {
		t.Errorf("without tasks: %v", got)
	}
	s.L = []complex128{}
	if got := holdsStep(t, s); !same(got, s) {
		t.Errorf("with a list of none: %v", got)
	}
	s, _ = New(1, 1)
	if got := holdsStep(t, s); !same(got, s) {
		t.Errorf("of a new one: %v", got)
	}
	s = some()
	for i, x := range []struct {
		cells map[int]api.Cell
		l     []complex128
	}{
		{nil, []complex128{5 + 1i, 8, 8}},
		{nil, []complex128{0, 5 + 2i, 8, 8}},
		{map[int]api.Cell{0: leaf(2, 1, 3)}, []complex128{5 + 2i, 8, 8}},
		{nil, []complex128{6, 5 + 3i, 8, 8}},
		{map[int]api.Cell{6: pin}, []complex128{5 + 3i, 8, 8}},
		{map[int]api.Cell{5: pin}, []complex128{8, 8}},
		{map[int]api.Cell{8: leaf(1, 40, 41)}, []complex128{8}},
		{map[int]api.Cell{8: pin}, nil},
		{nil, nil},
	} {
		want := with(s, x.cells)
		want.L = x.l
		got := holdsStep(t, s)
		if !same(got, want) {
			t.Fatalf("step %d: %v, not %v", i, got, want)
		}
		for id, l := range had() {
			has(t, got, id, l)
		}
		s = got
	}
}

// P12.5: behind up to 480 tasks all goes on: what comes out is right behind each step, of the highest tree that is given back first, too.
func TestManyTasks(t *testing.T) {
	s := chain(20, 5)
	s, _ = holdsDrop(t, s, 1)
	s, id, _ := holdsCreate(t, s)
	s, _ = holdsPut(t, s, id, 1, 1, false)
	for i := 1; i < 480; i++ {
		var n int
		var e api.Errno
		if s, n, e = Snap(s, id); e != api.OK {
			t.Fatalf("the %dth: %d", i, e)
		}
		if s, e = Drop(s, n); e != api.OK || len(s.L) != i+1 {
			t.Fatalf("the %dth: %d", i, e)
		}
	}
	if got, e := holdsDrop(t, s, id); e != api.ErrFull || !same(got, s) {
		t.Errorf("behind 480: %d", e)
	}
	longest := 0
	for range clean.Left(s.H, s.L) {
		s = Step(s)
		speaks(t, s)
		longest = max(longest, len(s.L))
		has(t, s, id, []api.Item{{K: 1, V: 1}})
	}
	if longest != 499 || len(s.L) != 0 || s.H.C[s.V[0].Root].Ref != 1 {
		t.Errorf("%d tasks at once, Ref %d", longest, s.H.C[s.V[0].Root].Ref)
	}
}

// P12.5: a snapshot has what its volume had, whatever is put into either one, or taken out, and whichever is dropped.
func TestSnapStays(t *testing.T) {
	s, _ := New(300, 0)
	s, a, _ := Create(s)
	for k := range 20 {
		s, _ = Put(s, a, 2*k, k, false)
		s.H = heap.Settle(s.H)
	}
	was, _ := Items(s, a)
	if len(was) != 20 {
		t.Fatalf("%v", was)
	}
	s, b, _ := holdsSnap(t, s, a)
	has(t, s, b, was)
	for i, x := range []struct{ changed, stays int }{{a, b}, {b, a}} {
		c := s
		for k := range 40 {
			c, _ = holdsPut(t, c, x.changed, k, 1000+k, false)
			c.H = heap.Settle(c.H)
			has(t, c, x.stays, was)
		}
		for k := range 40 {
			c, _ = holdsDel(t, c, x.changed, k)
			c.H = heap.Settle(c.H)
			has(t, c, x.stays, was)
		}
		has(t, c, x.changed, nil)
		c, e := holdsDrop(t, s, x.changed)
		for range clean.Left(c.H, c.L) {
			c = holdsStep(t, c)
			c.H = heap.Settle(c.H)
			has(t, c, x.stays, was)
		}
		if e != api.OK || len(c.L) != 0 || len(c.V) != 1 || c.V[0] != (api.Vol{Id: x.stays, Root: s.V[1].Root}) {
			t.Errorf("%d: %v", i, c.V)
		}
	}
}

// forest is a state, and what its volumes have, worked out apart.
type forest struct {
	s    api.State
	want map[int]map[int]int
}

// seen holds what there is to be seen of all volumes.
func (f *forest) seen(t *testing.T) {
	t.Helper()
	if len(f.s.V) != len(f.want) {
		t.Fatalf("%d volumes, not %d", len(f.s.V), len(f.want))
	}
	for id, m := range f.want {
		var l []api.Item
		for k, v := range m {
			l = append(l, api.Item{K: k, V: v})
		}
		slices.SortFunc(l, func(a, b api.Item) int { return a.K - b.K })
		has(t, f.s, id, l)
	}
}

// id is the number of a volume that is drawn, and now and then one that no volume has.
func (f *forest) id(pick func(n int) int) int {
	if len(f.s.V) == 0 || pick(20) == 0 {
		return pick(f.s.Next + 2)
	}
	return f.s.V[pick(len(f.s.V))].Id
}

// change does one thing that is drawn, and holds it against what was worked out apart; what it is, and its error, are told.
func (f *forest) change(t *testing.T, pick func(n int) int, keys int) (string, api.Errno) {
	t.Helper()
	id, k, v, e := f.id(pick), pick(keys), pick(1000), api.OK
	n := 0
	switch do := pick(24); {
	case do < 2:
		if f.s, n, e = holdsCreate(t, f.s); e == api.OK {
			f.want[n] = map[int]int{}
		}
		return "Create", e
	case do < 4:
		if f.s, n, e = holdsSnap(t, f.s, id); e == api.OK {
			f.want[n] = map[int]int{}
			for k, v := range f.want[id] {
				f.want[n][k] = v
			}
		}
		return "Snap", e
	case do < 6:
		if f.s, e = holdsDrop(t, f.s, id); e == api.OK {
			delete(f.want, id)
		}
		return "Drop", e
	case do < 15:
		if f.s, e = holdsPut(t, f.s, id, k, v, pick(3) == 0); e == api.OK {
			f.want[id][k] = v
		}
		return "Put", e
	case do < 21:
		if f.s, e = holdsDel(t, f.s, id, k); e == api.OK {
			if _, is := f.want[id][k]; !is {
				t.Fatalf("Del(%d, %d): OK, though it wasn't there", id, k)
			}
			delete(f.want[id], k)
		}
		return "Del", e
	}
	f.s.H = heap.Settle(f.s.H)
	return "commit", api.OK
}

// ended holds what is left behind all steps: just what volumes have is used.
func (f *forest) ended(t *testing.T) {
	t.Helper()
	s := f.s
	s.H, s.L = clean.Steps(s.H, s.L, 20000)
	used := 0
	for _, is := range audit.Held(s.H, Roots(s), nil) {
		if is {
			used++
		}
	}
	if len(s.L) != 0 || !right(s) || heap.Free(heap.Settle(s.H)) != len(s.H.C)-used {
		t.Fatalf("%v: in the end %v", f.s, s)
	}
}

// P12.1 to P12.5: drawn volumes and snapshots, in heaps of all sizes, changed, dropped and given back beside commits; all of it is right behind each.
func TestForest(t *testing.T) {
	type end struct {
		what string
		e    api.Errno
	}
	told := map[end]int{}
	steps := 0
	for seed := range 120 {
		pick := picker(seed)
		size := 1 + pick(70)
		s, _ := New(size, pick(size/5+1))
		s.Gen, s.Next = pick(9), 1+pick(3)
		f := &forest{s: s, want: map[int]map[int]int{}}
		keys, slow := 1+pick(50), 1+pick(5)
		for range 250 {
			if pick(3) == 0 && pick(slow) == 0 {
				steps += min(len(f.s.L), 1)
				f.s = holdsStep(t, f.s)
			} else {
				what, e := f.change(t, pick, keys)
				told[end{what, e}]++
			}
			f.seen(t)
			f.ended(t)
		}
	}
	for _, x := range []end{{"Create", api.OK}, {"Create", api.ErrFull}, {"Snap", api.OK}, {"Snap", api.ErrFull}, {"Snap", api.ErrNone}, {"Drop", api.OK}, {"Drop", api.ErrNone}, {"Put", api.OK}, {"Put", api.ErrFull}, {"Put", api.ErrNone}, {"Del", api.OK}, {"Del", api.ErrFull}, {"Del", api.ErrNone}} {
		if told[x] < 20 {
			t.Errorf("%s: %d just %d times", x.what, x.e, told[x])
		}
	}
	if steps < 500 {
		t.Errorf("just %d steps", steps)
	}
}

// The chapter's example: Create, Put 7 in it, Snap, Del 7 in the first one: the second one has 7 yet.
func TestExample(t *testing.T) {
	s, _ := New(10, 2)
	s, a, _ := Create(s)
	s, _ = Put(s, a, 7, 70, false)
	s, b, _ := Snap(s, a)
	s, e := Del(s, a, 7)
	if e != api.OK || a != 1 || b != 2 {
		t.Fatalf("%d, volumes %d and %d", e, a, b)
	}
	has(t, s, a, nil)
	has(t, s, b, []api.Item{{K: 7, V: 70}})
}

// R1: no call panics, and all end, at states that aren't right, too.
func TestEnds(t *testing.T) {
	odd := []float64{math.NaN(), math.Inf(1), math.Inf(-1), -1, 0.5, 3, 6, 2000, 1 << 63, 1e300}
	var l []complex128
	for _, x := range odd {
		for _, y := range odd {
			l = append(l, complex(x, y))
		}
	}
	ring := api.State{H: api.Heap{C: []api.Cell{over(1, 1, 1), over(1, 1, 0), leaf(-5, 1), over(9, 1, 99, 2, -7), {Ref: 1}, {Ref: 1, Pin: true}}, Keep: -9}, L: []complex128{0, 3}}
	for p := range len(ring.H.C) + 3 {
		ring.V = append(ring.V, api.Vol{Id: p, Root: p - 2})
	}
	wide := some()
	wide.V = slices.Repeat(wide.V, 9)
	for _, x := range far {
		wide.V = append(wide.V, api.Vol{Id: x, Root: x})
	}
	for i, s := range []api.State{{}, {H: api.Heap{Keep: -1}, V: []api.Vol{{}, {Id: 1, Root: -1}, {Id: 1, Root: 0}}}, ring, wide} {
		for _, s.Next = range append([]int{0, 5, most}, far...) {
			for _, s.L = range [][]complex128{nil, l, make([]complex128, 479), make([]complex128, 480), make([]complex128, 20000)} {
				Roots(s)
				Step(s)
				if got, n, e := Create(s); e == api.OK && n != s.Next || e != api.OK && (n != 0 || got.Next != s.Next) {
					t.Errorf("%d: Create: %d, %d", i, n, e)
				}
				for _, v := range append(slices.Clone(s.V), api.Vol{Id: -77}) {
					Find(s, v.Id)
					Items(s, v.Id)
					Drop(s, v.Id)
					Put(s, v.Id, 1, 1, true)
					Del(s, v.Id, 1)
					if _, n, e := Snap(s, v.Id); e != api.OK && n != 0 {
						t.Errorf("%d: Snap: %d, %d", i, n, e)
					}
				}
			}
		}
	}
}

// calls are states that come out of all calls that change one.
func calls(s api.State) []api.State {
	var l []api.State
	a, _, _ := Create(s)
	l = append(l, a, Step(s))
	for _, id := range []int{2, 5, 6, 9, 10} {
		b, _, _ := Snap(s, id)
		c, _ := Drop(s, id)
		d, _ := Put(s, id, 8, 80, true)
		e, _ := Del(s, id, 3)
		l = append(l, b, c, d, e)
	}
	return l
}

// R3: what is handed in isn't written into, not even behind its end, and isn't kept; what came out stays as it was, whatever is done with it, or with what it came of.
func TestHandedIn(t *testing.T) {
	s := some()
	// Room behind each list.
	vols := append(slices.Clone(s.V), api.Vol{Id: -7, Root: -7}, api.Vol{Id: -8, Root: -8})
	tasks := append(slices.Clone(s.L), -7, -8, -9)
	cells := append(deep(s).H.C, leaf(7, 7), pin)
	for p := range cells {
		it := append(slices.Clone(cells[p].N.It), api.Item{K: -7}, api.Item{K: -8})
		cells[p].N.It = it[:len(it)-2]
	}
	s.V, s.L, s.H.C = vols[:len(vols)-2], tasks[:len(tasks)-3], cells[:len(cells)-2]
	all := func() api.State {
		x := deep(api.State{H: api.Heap{C: cells}, V: vols, L: tasks, Next: s.Next, Gen: s.Gen})
		for p := range cells {
			it := cells[p].N.It
			x.H.C[p].N.It = slices.Clone(it[:len(it)+2])
		}
		return x
	}
	was := all()
	l := calls(s)
	for range 2 {
		for _, x := range l[:len(l):len(l)] {
			l = append(l, calls(x)...)
		}
	}
	if !same(all(), was) {
		t.Fatal("what was handed in is changed")
	}
	var then []api.State
	for _, x := range l {
		then = append(then, deep(x))
	}
	for _, x := range l {
		calls(x)
		for _, id := range []int{2, 6, 11} {
			// Items and roots are the caller's own.
			it, _ := Items(x, id)
			clear(it)
			clear(Roots(x))
		}
	}
	if !same(all(), was) || !slices.EqualFunc(l, then, same) {
		t.Fatal("what came out, or was handed in, is changed")
	}
}

// R4: the same arguments, the same answers.
func TestSameAnswers(t *testing.T) {
	want := calls(some())
	for range 3 {
		calls(many(20))
		New(7, 7)
		if !slices.EqualFunc(calls(some()), want, same) {
			t.Fatal("another answer")
		}
	}
}
