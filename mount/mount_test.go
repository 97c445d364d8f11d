package mount

import (
	"encoding/binary"
	"hash/crc32"
	"math"
	"slices"
	"strings"
	"testing"

	"assart/api"
	"assart/book"
	"assart/commit"
	"assart/disk"
	"assart/heap"
	"assart/node"
	"assart/plan"
	"assart/slot"
	"assart/state"
	"assart/todo"
)

const most = api.Most

// far are numbers that are no volume's, no root, no Next, no Gen, and no Keep.
var far = []int{math.MinInt, math.MinInt + 1, -1 << 62, -1 << 32, -1<<32 + 1, -1 << 31, -2001, -2, 1 << 31, 1<<31 + 1, 1 << 32, 1<<32 + 1, 1 << 62, math.MaxInt - 1, math.MaxInt}

// zeros is a block of bytes 0.
var zeros = strings.Repeat("\x00", 40)

// pin is a cell that waits for a commit.
var pin = api.Cell{Pin: true}

// leaf is a cell with a leaf of these keys.
func leaf(ref int, k ...int) api.Cell {
	c := api.Cell{Ref: ref, N: api.Node{Leaf: true}}
	for _, x := range k {
		c.N.It = append(c.N.It, api.Item{K: x, V: 10*x + 1})
	}
	return c
}

// over is a cell with a node that is no leaf, of these keys and places in turn.
func over(ref int, kp ...int) api.Cell {
	c := api.Cell{Ref: ref}
	for i := 0; i+1 < len(kp); i += 2 {
		c.N.It = append(c.N.It, api.Item{K: kp[i], V: kp[i+1]})
	}
	return c
}

// deep is a state's copy, in memory of its own.
func deep(s api.State) api.State {
	s.H.C = slices.Clone(s.H.C)
	for p := range s.H.C {
		s.H.C[p].N.It = slices.Clone(s.H.C[p].N.It)
	}
	s.V, s.L = slices.Clone(s.V), slices.Clone(s.L)
	return s
}

// same: are two states the same, all of them?
func same(a, b api.State) bool {
	cells := slices.EqualFunc(a.H.C, b.H.C, func(x, y api.Cell) bool {
		return x.Ref == y.Ref && x.Pin == y.Pin && x.N.Leaf == y.N.Leaf && slices.Equal(x.N.It, y.N.It)
	})
	return cells && a.H.Keep == b.H.Keep && slices.Equal(a.V, b.V) && slices.Equal(a.L, b.L) && a.Next == b.Next && a.Gen == b.Gen
}

// isNone: is it no state at all?
func isNone(s api.State) bool {
	return s.H.C == nil && s.H.Keep == 0 && s.V == nil && s.L == nil && s.Next == 0 && s.Gen == 0
}

// whole is a disk's copy, in memory of its own.
func whole(d api.Disk) api.Disk { return api.Disk{B: slices.Clone(d.B), W: slices.Clone(d.W)} }

// picker is a row of numbers that look as if they were drawn; the same for the same seed.
func picker(seed int) func(n int) int {
	x := uint64(seed)*2654435761 + 12345
	return func(n int) int {
		x = x*6364136223846793005 + 1442695040888963407
		return int(x>>33) % n
	}
}

// blank is a new disk for a heap of n cells, with no block more than it needs.
func blank(n int) api.Disk {
	d, _ := disk.New(plan.Base(n) + n)
	return d
}

// fresh is a new state of n cells.
func fresh(n int) api.State {
	s, _ := state.New(n, 0)
	return s
}

// pinned is a state of n cells, from 12 on, some with a Pin, some used, and with a task.
func pinned(n int) api.State {
	s, a, _ := state.Create(fresh(n))
	for k := range 6 {
		s, _ = state.Put(s, a, k, 10*k, false)
	}
	s, b, _ := state.Create(s)
	s, _ = state.Put(s, b, 1, 1, false)
	s, _ = state.Drop(s, b)
	return s
}

// some is a right state: volumes 2, 5, 6 and 9, of which 2 and 9 have one tree, 5 has none, and 6 shares a leaf with the others; a task of a tree of which nothing is done, two of a leaf, and one of a node of which one of three items is given back; free cells.
func some() api.State {
	return api.State{
		H: api.Heap{Keep: 3, C: []api.Cell{
			leaf(3, 1, 3),                          // 0
			leaf(1, 7),                             // 1
			over(2, 1, 0, 7, 1),                    // 2
			over(1, 1, 0, 9, 4),                    // 3
			leaf(1, 9, 11, 12, 13),                 // 4
			over(1, 1, 0, 20, 6),                   // 5
			leaf(1, 20),                            // 6
			{},                                     // 7
			leaf(2, 40, 41),                        // 8
			over(1, 30, 12, 31, 10, 33, 11),        // 9
			leaf(1, 31),                            // 10
			leaf(1, 33, 34),                        // 11
			{}, {}, {}, {}, {}, {}, {}, {}, {}, {}, // 12 to 21
		}},
		V:    []api.Vol{{Id: 2, Root: 2}, {Id: 5, Root: -1}, {Id: 6, Root: 3}, {Id: 9, Root: 2}},
		L:    []complex128{9 + 2i, 5, 8, 8},
		Next: 11,
		Gen:  4,
	}
}

// full is a right state of n cells whose book is as large as may be: 20 volumes, and 500 tasks of one leaf.
func full(n int) api.State {
	s := fresh(n)
	s.H.C[n-1] = leaf(500, 5)
	for range 20 {
		s, _, _ = state.Create(s)
	}
	for range 500 {
		s.L = append(s.L, complex(float64(n-1), 0))
	}
	s.Gen = 7
	return s
}

// filled is a right state of n cells that all are used: a tree over leaves of four items, as large as has room, and tasks of leaves.
func filled(n int) api.State {
	s := api.State{Next: 2, Gen: 3, V: []api.Vol{{Id: 1}}}
	row := []int{}
	for range n * 2 / 3 {
		k := 4 * len(s.H.C)
		row = append(row, len(s.H.C))
		s.H.C = append(s.H.C, leaf(1, k, k+1, k+2, k+3))
	}
	for len(row) > 1 {
		var up []int
		for few := range slices.Chunk(row, 4) {
			c := api.Cell{Ref: 1}
			for _, p := range few {
				c.N.It = append(c.N.It, api.Item{K: s.H.C[p].N.It[0].K, V: p})
			}
			up = append(up, len(s.H.C))
			s.H.C = append(s.H.C, c)
		}
		row = up
	}
	s.V[0].Root = row[0]
	for len(s.H.C) < n {
		s.L = append(s.L, complex(float64(len(s.H.C)), 0))
		s.H.C = append(s.H.C, leaf(1, 1))
	}
	return s
}

// settled is a state behind a commit, worked out apart from the program.
func settled(s api.State) api.State {
	s = deep(s)
	for p := range s.H.C {
		s.H.C[p].Pin = false
	}
	s.Gen++
	return s
}

// bytesOf is a state's book, be it right or not, worked out apart from the program.
func bytesOf(s api.State) []byte {
	small := binary.LittleEndian
	b := small.AppendUint32(nil, uint32(s.Next))
	b = append(b, byte(len(s.V)))
	for _, v := range s.V {
		b = small.AppendUint32(b, uint32(v.Id))
		b = small.AppendUint16(b, uint16(v.Root+1))
	}
	b = small.AppendUint16(b, uint16(len(s.L)))
	for _, t := range s.L {
		b = small.AppendUint16(b, uint16(real(t)))
		b = append(b, byte(imag(t)))
	}
	b = small.AppendUint16(b, uint16(s.H.Keep))
	b = small.AppendUint16(b, uint16(len(s.H.C)))
	for _, c := range s.H.C {
		b = small.AppendUint16(b, uint16(c.Ref))
	}
	return b
}

// sum is a check sum, likewise.
func sum(b []byte) int { return int(crc32.ChecksumIEEE(b)) }

// areaOf and baseOf are where a disk's areas and cells are, likewise.
func areaOf(n int) int { return (1631 + 2*n + 39) / 40 }
func baseOf(n int) int { return 2 + 2*areaOf(n) }

// super is a disk with what one slot tells.
func super(d api.Disk, at int, told api.Super) api.Disk {
	d = whole(d)
	d.B[at], _ = slot.Print(told)
	return d
}

// booked is a disk for n cells with those bytes as the book of that commit: in its area, and told by its slot.
func booked(d api.Disk, n, gen int, b []byte) api.Disk {
	d = super(d, gen%2, api.Super{Gen: gen, Size: len(b), Sum: sum(b)})
	first := 2 + gen%2*areaOf(n)
	for i := 0; i*40 < len(b); i++ {
		page := make([]byte, 40)
		copy(page, b[i*40:])
		d.B[first+i] = string(page)
	}
	return d
}

// laid is a disk that holds a state, be it right or not, as the commit of its own Gen.
func laid(s api.State) api.Disk {
	n := len(s.H.C)
	d := booked(blank(n), n, s.Gen, bytesOf(s))
	for p, c := range s.H.C {
		if x, e := node.Print(c.N); e == api.OK {
			d.B[baseOf(n)+p] = x
		}
	}
	return d
}

// spoilt is a disk with one byte of a block changed.
func spoilt(d api.Disk, at, i int) api.Disk {
	d = whole(d)
	b := []byte(d.B[at])
	b[i] ^= 1
	d.B[at] = string(b)
	return d
}

// with is a state's copy that is changed.
func with(s api.State, change func(s *api.State)) api.State {
	s = deep(s)
	change(&s)
	return s
}

// blockOf is what is read of a block, worked out apart from the program.
func blockOf(d api.Disk, at int) string {
	b := ""
	if at < len(d.B) {
		b = d.B[at]
	}
	for _, w := range d.W {
		if w.At == at {
			b = w.S
		}
	}
	return b
}

// superOf is Super, likewise.
func superOf(d api.Disk) (api.Super, api.Errno) {
	if len(d.B) < 2 {
		return api.Super{}, api.ErrNone
	}
	a, e := slot.Parse(blockOf(d, 0))
	b, f := slot.Parse(blockOf(d, 1))
	switch {
	case e == api.OK && (f != api.OK || a.Gen >= b.Gen):
		return a, api.OK
	case f == api.OK:
		return b, api.OK
	}
	return api.Super{}, api.ErrNone
}

// cellsOf is how many cells a disk has room for, likewise.
func cellsOf(blocks int) int {
	n := 0
	for n < 2000 && baseOf(n+1)+n+1 <= blocks {
		n++
	}
	return n
}

// mountOf is Mount, likewise; what a book's and a node's bytes tell, chapters 13 and 4 say.
func mountOf(d api.Disk) (api.State, api.Errno) {
	none := api.State{}
	told, e := superOf(d)
	if e != api.OK {
		return none, e
	}
	d = whole(d)
	for _, w := range d.W {
		d.B[w.At] = w.S
	}
	d.W = nil
	n := cellsOf(len(d.B))
	if n == 0 || told.Size > 1631+2*n {
		return none, api.ErrForm
	}
	first := 2
	if told.Gen%2 == 1 {
		first += areaOf(n)
	}
	b := []byte(strings.Join(d.B[first:first+areaOf(n)], ""))[:told.Size]
	s, e := book.Parse(b, told.Gen)
	if e != api.OK || sum(b) != told.Sum || len(s.H.C) != n {
		return none, api.ErrForm
	}
	for p := range n {
		if s.H.C[p].Ref > 0 {
			if s.H.C[p].N, e = node.Parse(d.B[baseOf(n)+p]); e != api.OK {
				return none, api.ErrForm
			}
		}
	}
	if !rightOf(s) {
		return none, api.ErrForm
	}
	return s, api.OK
}

// heapOf: is a heap right, likewise?
func heapOf(h api.Heap) bool {
	n := len(h.C)
	if n < 1 || n > 2000 || h.Keep < 0 || h.Keep > n {
		return false
	}
	for _, c := range h.C {
		if c.Ref == 0 && (len(c.N.It) > 0 || c.N.Leaf) || c.Ref < 0 || c.Ref > most || c.Ref > 0 && (c.Pin || !node.Right(c.N)) {
			return false
		}
		for _, x := range c.N.It {
			if !c.N.Leaf && x.V >= n {
				return false
			}
		}
	}
	return true
}

// leavesOf is the keys of all leaves below a node, in order, and how high it is; or not, if the words of chapter 7 aren't true there.
func leavesOf(h api.Heap, p, above int) ([]int, int, bool) {
	if p < 0 || p >= len(h.C) || h.C[p].Ref == 0 || above == 20 {
		return nil, 0, false
	}
	n := h.C[p].N
	var keys []int
	high := 0
	for i, x := range n.It {
		if n.Leaf {
			keys = append(keys, x.K)
			continue
		}
		below, up, is := leavesOf(h, x.V, above+1)
		if !is || i > 0 && up != high || slices.Min(below) != x.K || i+1 < len(n.It) && slices.Max(below) >= n.It[i+1].K {
			return nil, 0, false
		}
		keys, high = append(keys, below...), up
	}
	return keys, high + 1, true
}

// treeOf: is a tree right, likewise?
func treeOf(h api.Heap, root int) bool {
	_, high, is := leavesOf(h, root, 0)
	return root == -1 || is && high <= 20
}

// givenOf is how many items of a cell are given back, likewise.
func givenOf(s api.State, p int) int {
	given := 0
	for _, t := range s.L {
		if int(real(t)) == p {
			given = max(given, int(imag(t))-1)
		}
	}
	return min(given, len(s.H.C[p].N.It))
}

// soundOf: does everything add up, likewise?
func soundOf(s api.State) bool {
	refs, held := make([]int, len(s.H.C)), make([]bool, len(s.H.C))
	for _, v := range s.V {
		if v.Root >= 0 {
			refs[v.Root]++
			held[v.Root] = true
		}
	}
	for _, t := range s.L {
		refs[int(real(t))]++
		held[int(real(t))] = true
	}
	for p, c := range s.H.C {
		if c.Ref > 0 && !c.N.Leaf {
			for _, x := range c.N.It[givenOf(s, p):] {
				refs[x.V]++
			}
		}
	}
	for again := true; again; {
		again = false
		for p, c := range s.H.C {
			if !held[p] || c.N.Leaf {
				continue
			}
			for _, x := range c.N.It[givenOf(s, p):] {
				again = again || !held[x.V]
				held[x.V] = true
			}
		}
	}
	for p, c := range s.H.C {
		if c.Ref != refs[p] || held[p] != (c.Ref > 0) {
			return false
		}
	}
	return true
}

// rightOf is Right, likewise, by the words alone.
func rightOf(s api.State) bool {
	if !heapOf(s.H) || len(s.L) > 500 || len(s.V) > 20 || s.Next < 1 || s.Next > most || s.Gen < 0 || s.Gen > most {
		return false
	}
	for i, v := range s.V {
		if v.Id < 1 || v.Id >= s.Next || i > 0 && v.Id <= s.V[i-1].Id || !treeOf(s.H, v.Root) {
			return false
		}
	}
	for _, t := range s.L {
		p, k := real(t), imag(t)
		if !(p >= 0 && p < float64(len(s.H.C)) && p == math.Trunc(p) && k >= 0 && k <= 5 && k == math.Trunc(k)) {
			return false
		}
	}
	for _, t := range s.L {
		p := int(real(t))
		if imag(t) == 0 && !treeOf(s.H, p) || imag(t) > 0 && (s.H.C[p].Ref != 1 || s.H.C[p].N.Leaf) {
			return false
		}
		for _, x := range s.H.C[p].N.It[givenOf(s, p):] {
			if imag(t) > 0 && !treeOf(s.H, x.V) {
				return false
			}
		}
	}
	return soundOf(s)
}

// holds holds Super, Mount and Check of a disk against what is worked out apart, and that it isn't changed. What Mount tells is its answer.
func holds(t *testing.T, d api.Disk) (api.State, api.Errno) {
	t.Helper()
	own := whole(d)
	told, e := Super(d)
	if want, f := superOf(own); e != f || told != want {
		t.Fatalf("super: %d, %v; not %d, %v", e, told, f, want)
	}
	s, e := Mount(d)
	want, f := mountOf(own)
	if e != f || !same(s, want) || e != api.OK && !isNone(s) {
		t.Fatalf("mount: %d, %v; not %d, %v", e, s, f, want)
	}
	refs := 0
	for _, c := range want.H.C {
		if c.Ref > 0 {
			refs++
		}
	}
	if n, g := Check(d); n != refs || g != f {
		t.Fatalf("check: %d, %d; not %d, %d", n, g, refs, f)
	}
	if !disk.Same(d, own) {
		t.Fatal("the disk is changed")
	}
	return s, e
}

// tells holds that a disk tells a state.
func tells(t *testing.T, d api.Disk, want api.State) {
	t.Helper()
	if s, e := holds(t, d); e != api.OK || !same(s, want) {
		t.Fatalf("%d, %v; not %v", e, s, want)
	}
}

// fails holds that a disk tells none.
func fails(t *testing.T, d api.Disk, want api.Errno) {
	t.Helper()
	if s, e := holds(t, d); e != want || !isNone(s) {
		t.Fatalf("%d, %v; not %d", e, s, want)
	}
}

// is holds whether a state is right.
func is(t *testing.T, what string, s api.State, want bool) {
	t.Helper()
	own := deep(s)
	if rightOf(own) != want {
		t.Fatalf("%s: worked out apart: %t", what, !want)
	}
	if got := Right(s); got != want {
		t.Errorf("%s: %t", what, got)
	}
	if !same(s, own) && !slices.ContainsFunc(s.L, func(x complex128) bool { return x != x }) {
		t.Errorf("%s: what was handed in is changed", what)
	}
}

// The chapter's example: a formatted disk of 135 blocks: a state of Gen 1 without volumes.
func TestExample(t *testing.T) {
	d, f, _ := commit.Format(135, 0)
	s, e := Mount(d)
	if e != api.OK || s.Gen != 1 || len(s.V) != 0 || len(s.H.C) != 45 || s.Next != 1 || !same(s, f) {
		t.Error(s, e)
	}
	if n, e := Check(d); n != 0 || e != api.OK {
		t.Error(n, e)
	}
	if p, e := Super(d); e != api.OK || p.Gen != 1 || p.Size != 101 {
		t.Error(p, e)
	}
	holds(t, d)
}

// P16.1: of noughts, of a slot alone, of either, and of both, the one of the greater Gen in either block; of the same one, the first.
func TestSuper(t *testing.T) {
	two, _ := disk.New(2)
	fails(t, two, api.ErrNone)
	for _, d := range []api.Disk{two, blank(1), blank(45)} {
		for _, x := range []struct {
			a, b api.Super // none, if Gen is 0
			want api.Super
		}{
			{api.Super{Gen: 1}, api.Super{}, api.Super{Gen: 1}},
			{api.Super{}, api.Super{Gen: 1}, api.Super{Gen: 1}},
			{api.Super{Gen: 2, Size: 3, Sum: 4}, api.Super{Gen: 1, Size: 5, Sum: 6}, api.Super{Gen: 2, Size: 3, Sum: 4}},
			{api.Super{Gen: 2, Size: 3, Sum: 4}, api.Super{Gen: 3, Size: 5, Sum: 6}, api.Super{Gen: 3, Size: 5, Sum: 6}},
			{api.Super{Gen: 7, Size: 9, Sum: 9}, api.Super{Gen: 4, Size: 1}, api.Super{Gen: 7, Size: 9, Sum: 9}},
			{api.Super{Gen: 5, Size: 1}, api.Super{Gen: 5, Size: 2}, api.Super{Gen: 5, Size: 1}},
			{api.Super{Gen: most - 1, Sum: 1<<32 - 1}, api.Super{Gen: most, Size: most, Sum: 1<<32 - 1}, api.Super{Gen: most, Size: most, Sum: 1<<32 - 1}},
		} {
			d := whole(d)
			if x.a.Gen > 0 {
				d = super(d, 0, x.a)
			}
			if x.b.Gen > 0 {
				d = super(d, 1, x.b)
			}
			if p, e := Super(d); e != api.OK || p != x.want {
				t.Errorf("%v, %v: %v, %d", x.a, x.b, p, e)
			}
			fails(t, d, api.ErrForm)
		}
		if p, e := Super(d); e != api.ErrNone || p != (api.Super{}) {
			t.Errorf("noughts: %v, %d", p, e)
		}
	}
}

// P16.1: ErrNone, and none, of a disk of one block, even if that is a slot, and of one of none.
func TestSuperOfOneBlock(t *testing.T) {
	one, _ := disk.New(1)
	right := super(one, 0, api.Super{Gen: 3, Size: 20, Sum: 7})
	waits := one
	waits.W = []api.Write{{At: 0, S: right.B[0]}}
	for _, d := range []api.Disk{one, right, waits, {}, {B: []string{}}} {
		if p, e := Super(d); e != api.ErrNone || p != (api.Super{}) {
			t.Errorf("%d blocks: %v, %d", len(d.B), p, e)
		}
		fails(t, d, api.ErrNone)
	}
}

// P16.1, P16.2: a slot of which a byte is changed doesn't count; then the other one does, and the state ahead is told.
func TestSuperSpoilt(t *testing.T) {
	d, first, _ := commit.Format(96, 0)
	s, _, _ := state.Create(first)
	d, second, _ := commit.Do(d, s, -1)
	tells(t, d, second)
	for i := range 40 {
		tells(t, spoilt(d, 0, i), first)
		tells(t, spoilt(d, 1, i), second)
		fails(t, spoilt(spoilt(d, 0, i), 1, 39-i), api.ErrNone)
	}
}

// P16.1: what waits to the slots is read as if it were there.
func TestSuperWaits(t *testing.T) {
	d := super(super(blank(4), 0, api.Super{Gen: 2}), 1, api.Super{Gen: 3})
	four, _ := slot.Print(api.Super{Gen: 4, Size: 8})
	one, _ := slot.Print(api.Super{Gen: 1, Size: 9})
	for _, x := range []struct {
		w    []api.Write
		want int
	}{
		{nil, 3}, {[]api.Write{{At: 0, S: four}}, 4}, {[]api.Write{{At: 1, S: four}}, 4}, {[]api.Write{{At: 1, S: one}}, 2}, {[]api.Write{{At: 1, S: zeros}}, 2},
		{[]api.Write{{At: 0, S: four}, {At: 0, S: one}}, 3}, {[]api.Write{{At: 1, S: one}, {At: 5, S: zeros}, {At: 1, S: four}}, 4}, {[]api.Write{{At: 0, S: zeros}, {At: 1, S: zeros}}, 0},
	} {
		d.W = x.w
		p, e := Super(d)
		if p.Gen != x.want || (e == api.OK) != (x.want > 0) {
			t.Errorf("%d writes wait: %v, %d", len(x.w), p, e)
		}
		holds(t, d)
		if p, e := Super(disk.Crash(d, nil)); p.Gen != 3 || e != api.OK {
			t.Errorf("lost: %v, %d", p, e)
		}
	}
}

// P16.2: a disk by hand: of one cell, with a leaf of one item, that is a volume's.
func TestMountByHand(t *testing.T) {
	d, _ := disk.New(85)
	page := "\x02\x00\x00\x00" + "\x01" + "\x01\x00\x00\x00\x01\x00" + "\x00\x00" + "\x01\x00" + "\x01\x00" + "\x01\x00"
	d.B[43] = page + strings.Repeat("\x00", 21)
	d.B[84], _ = node.Print(api.Node{Leaf: true, It: []api.Item{{K: 7, V: 70}}})
	d = super(d, 1, api.Super{Gen: 9, Size: 19, Sum: sum([]byte(page))})
	want := api.State{
		H:    api.Heap{C: []api.Cell{{Ref: 1, N: api.Node{Leaf: true, It: []api.Item{{K: 7, V: 70}}}}}, Keep: 1},
		V:    []api.Vol{{Id: 1, Root: 0}},
		Next: 2, Gen: 9,
	}
	tells(t, d, want)
	// In the other area, as of an even Gen, it counts for nothing.
	other := whole(d)
	other.B[2], other.B[43] = other.B[43], other.B[2]
	fails(t, other, api.ErrForm)
	want.Gen = 10
	tells(t, super(other, 0, api.Super{Gen: 10, Size: 19, Sum: sum([]byte(page))}), want)
	if n, e := Check(d); n != 1 || e != api.OK {
		t.Error(n, e)
	}
}

// P16.2: of as few blocks as have room for one cell, and of one less, whatever is told there.
func TestMountRoom(t *testing.T) {
	for _, n := range []int{1, 2, 4, 5, 44, 45, 1999, 2000} {
		s := fresh(n)
		s.Gen = 1
		d := laid(s)
		if (n == 1) != (len(d.B) == 85) {
			t.Fatal(n, len(d.B))
		}
		tells(t, d, s)
		less := whole(d)
		less.B = less.B[:len(less.B)-1]
		fails(t, less, api.ErrForm)
		more := whole(d)
		for len(more.B) < 4000 && (n == 2000 || len(more.B)+1 < baseOf(n+1)+n+1) {
			more.B = append(more.B, strings.Repeat("x", 40))
		}
		tells(t, more, s)
		if len(more.B) < 4000 {
			more.B = append(more.B, zeros)
			fails(t, more, api.ErrForm)
		}
	}
	for _, blocks := range []int{2, 3, 4, 40, 43, 83, 84} {
		d, _ := disk.New(blocks)
		fails(t, d, api.ErrNone)
		for _, told := range []api.Super{{Gen: 1}, {Gen: 2}, {Gen: 1, Size: 13}, {Gen: 2, Size: 1631}, {Gen: 1, Size: most}} {
			fails(t, super(d, 0, told), api.ErrForm)
			fails(t, super(d, 1, told), api.ErrForm)
		}
	}
}

// P16.2: of Gens that are even and odd, from 1 to Most: the book stands in the area of the Gen, wherever the slot stands; what the other area holds counts for nothing.
func TestMountGens(t *testing.T) {
	for _, gen := range []int{1, 2, 3, 4, 255, 256, 65535, 65536, 1 << 30, most - 1, most} {
		for _, s := range []api.State{some(), fresh(1), filled(60)} {
			s.Gen = gen
			n := len(s.H.C)
			d := laid(s)
			tells(t, d, s)
			swapped := whole(d)
			swapped.B[0], swapped.B[1] = swapped.B[1], swapped.B[0]
			tells(t, swapped, s)
			own, other := 2+gen%2*areaOf(n), 2+(1-gen%2)*areaOf(n)
			for i := range areaOf(n) {
				d.B[other+i] = strings.Repeat("x", 40)
			}
			tells(t, d, s)
			fails(t, spoilt(d, own, 0), api.ErrForm)
		}
	}
}

// P16.2: of a Size of 0, of all that a book may have, of one more; of one byte less or more than the book has, though the sum is right.
func TestMountSizes(t *testing.T) {
	for _, n := range []int{1, 4, 5, 45, 300} {
		s := full(n)
		b := bytesOf(s)
		if len(b) != 1631+2*n {
			t.Fatal(len(b))
		}
		d := laid(s)
		tells(t, d, s)
		if n == 45 {
			tells(t, laid(some()), some())
		}
		area := strings.Join(d.B[2+areaOf(n):baseOf(n)], "")
		for _, size := range []int{0, 1, 12, 13, len(b) - 2, len(b) - 1, len(b) + 1, len(b) + 2, len(area), len(area) + 1, 4000 * 40, most} {
			x := super(d, 1, api.Super{Gen: 7, Size: size, Sum: sum([]byte(area[:min(size, len(area))]))})
			if size == len(b) {
				continue
			}
			fails(t, x, api.ErrForm)
		}
		fails(t, super(d, 1, api.Super{Gen: 7, Size: len(b), Sum: sum(b[1:])}), api.ErrForm)
	}
	fails(t, super(blank(45), 1, api.Super{Gen: 1}), api.ErrForm)
}

// P16.2: an area of which a byte is changed, within the book, and behind it.
func TestMountAreaSpoilt(t *testing.T) {
	for _, s := range []api.State{some(), pinned(12), full(1)} {
		if s.Gen == 0 {
			s = settled(s)
		}
		d, n := laid(s), len(s.H.C)
		b, first := bytesOf(s), 2+s.Gen%2*areaOf(n)
		for i := range areaOf(n) * 40 {
			x := spoilt(d, first+i/40, i%40)
			if i < len(b) {
				fails(t, x, api.ErrForm)
			} else {
				tells(t, x, s)
			}
		}
	}
}

// P16.2: a book whose bytes are some other right state's, though not of the sum that the slot tells.
func TestMountSums(t *testing.T) {
	s := some()
	d := laid(s)
	for _, change := range []func(s *api.State){
		func(s *api.State) { s.Next = 12 },
		func(s *api.State) { s.H.Keep = 4 },
		func(s *api.State) { s.V[0].Id = 1 },
	} {
		x := with(s, change)
		other := laid(x)
		tells(t, other, x)
		other.B[0] = d.B[0]
		fails(t, other, api.ErrForm)
	}
	for _, told := range []int{0, 1, sum(bytesOf(s)) ^ 1, sum(bytesOf(s)) ^ 1<<31, 1<<32 - 1} {
		fails(t, super(d, 0, api.Super{Gen: 4, Size: len(bytesOf(s)), Sum: told}), api.ErrForm)
	}
}

// P16.2: a right book, but of fewer cells than the disk has room for, or of more.
func TestMountOtherCells(t *testing.T) {
	for _, n := range []int{2, 22, 45} {
		for _, many := range []int{1, n - 1, n + 1, n + 40, 2000} {
			if many == n || len(bytesOf(fresh(many))) > areaOf(n)*40 {
				continue
			}
			fails(t, booked(blank(n), n, 3, bytesOf(fresh(many))), api.ErrForm)
		}
		tells(t, booked(blank(n), n, 3, bytesOf(fresh(n))), with(fresh(n), func(s *api.State) { s.Gen = 3 }))
	}
}

// P16.2: bytes that are no book's that is such as a book tells, though their sum and Size are right.
func TestMountNoBook(t *testing.T) {
	for i, change := range []func(s *api.State){
		func(s *api.State) { s.Next = 0 },
		func(s *api.State) { s.Next = 1 << 31 },
		func(s *api.State) { s.Next = 9 },
		func(s *api.State) { s.V[0].Id = 0 },
		func(s *api.State) { s.V[1].Id = 2 },
		func(s *api.State) { s.V[1].Id = 6 },
		func(s *api.State) { s.V[3].Id = 11 },
		func(s *api.State) { s.V[0].Root = 7 },
		func(s *api.State) { s.V[0].Root = 22 },
		func(s *api.State) { s.V[0].Root = 65534 },
		func(s *api.State) { s.V = slices.Repeat(s.V[1:2], 21) },
		func(s *api.State) { s.L[0] = 22 },
		func(s *api.State) { s.L[0] = 9 + 6i },
		func(s *api.State) { s.L = slices.Repeat([]complex128{8}, 501); s.H.C[8].Ref = 501 },
		func(s *api.State) { s.H.Keep = 23 },
	} {
		s := with(some(), change)
		if Right(s) {
			t.Errorf("%d is right", i)
		}
		fails(t, laid(s), api.ErrForm)
	}
	s := some()
	b := bytesOf(s)
	for _, x := range [][]byte{nil, b[:1], b[:len(b)-1], append(slices.Clone(b), 0), b[1:], make([]byte, len(b)), make([]byte, 13), slices.Repeat([]byte{1}, len(b))} {
		d := laid(s)
		fails(t, booked(d, 22, 5, x), api.ErrForm)
		fails(t, booked(d, 22, 6, x), api.ErrForm)
	}
}

// P16.2: a cell with a Ref whose block is no node's; whatever stands in that of one without counts for nothing.
func TestMountNodes(t *testing.T) {
	s := some()
	d := laid(s)
	right, _ := node.Print(api.Node{Leaf: true, It: []api.Item{{K: 1, V: 1}}})
	for p, c := range s.H.C {
		at := baseOf(22) + p
		for _, b := range []string{zeros, strings.Repeat("x", 40), d.B[0], right[:39] + "\x00", "\x03" + right[1:]} {
			x := whole(d)
			x.B[at] = b
			if c.Ref > 0 {
				fails(t, x, api.ErrForm)
			} else {
				tells(t, x, s)
			}
		}
		for i := range 40 {
			if c.Ref > 0 {
				fails(t, spoilt(d, at, i), api.ErrForm)
			} else {
				tells(t, spoilt(d, at, i), s)
			}
		}
		// A node that is right stands for that cell's, if there is a Ref: then mostly no tree is right any more.
		x := whole(d)
		x.B[at] = right
		if c.Ref == 0 {
			tells(t, x, s)
		}
		holds(t, x)
	}
}

// unright are changes by each of which the right state some isn't right any more, though its book is one, and each node.
func unright() map[string]func(s *api.State) {
	return map[string]func(s *api.State){
		"a leaf's first key is less than its item's": func(s *api.State) { s.H.C[1] = leaf(1, 6, 7) },
		"it is more":                                    func(s *api.State) { s.H.C[1] = leaf(1, 8) },
		"an item's key is less than its leaf's":         func(s *api.State) { s.H.C[2].N.It[0].K = 0 },
		"a leaf's last key is the next item's":          func(s *api.State) { s.H.C[0] = leaf(3, 1, 7) },
		"it is above the next item's":                   func(s *api.State) { s.H.C[0] = leaf(3, 1, 8) },
		"a leaf is a node of one item":                  func(s *api.State) { s.H.C[1] = over(1, 7, 8); s.H.C[8].Ref++ },
		"two items tell one leaf":                       func(s *api.State) { s.H.C[2] = over(2, 1, 0, 3, 0); s.H.C[0].Ref++; s.H.C[1] = api.Cell{} },
		"a node tells itself":                           func(s *api.State) { s.H.C[2] = over(4, 1, 2, 7, 1); s.H.C[0].Ref-- },
		"a node tells a cell without a Ref":             func(s *api.State) { s.H.C[2] = over(2, 1, 0, 7, 7); s.H.C[1] = api.Cell{} },
		"a node tells a place that is no cell":          func(s *api.State) { s.H.C[2] = over(2, 1, 0, 7, 22); s.H.C[1] = api.Cell{} },
		"a Ref too many, of a root":                     func(s *api.State) { s.H.C[2].Ref++ },
		"a Ref too many, of a leaf":                     func(s *api.State) { s.H.C[0].Ref++ },
		"a Ref too many, of a task's place":             func(s *api.State) { s.H.C[5].Ref++ },
		"a Ref too few":                                 func(s *api.State) { s.H.C[0].Ref-- },
		"a Ref too few, of a root":                      func(s *api.State) { s.H.C[2].Ref-- },
		"a Ref, though nothing refers to it":            func(s *api.State) { s.H.C[20] = leaf(1, 1) },
		"a leaf more, below a node that nobody holds":   func(s *api.State) { s.H.C[20], s.H.C[21] = over(1, 1, 21), leaf(1, 1) },
		"two that tell one another, held by nobody":     func(s *api.State) { s.H.C[20], s.H.C[21] = over(1, 1, 21), over(1, 1, 20) },
		"one that tells itself, held by nobody":         func(s *api.State) { s.H.C[20] = over(1, 1, 20) },
		"no Ref, though a task is at it":                func(s *api.State) { s.L = append(s.L, 7) },
		"a volume less":                                 func(s *api.State) { s.V = s.V[1:] },
		"a volume's root is none":                       func(s *api.State) { s.V[0].Root = -1 },
		"a volume's root is another one":                func(s *api.State) { s.V[0].Root = 3 },
		"a volume's root is a leaf of its tree":         func(s *api.State) { s.V[0].Root = 0 },
		"a volume more":                                 func(s *api.State) { s.V = append(s.V, api.Vol{Id: 10, Root: 3}) },
		"a task less":                                   func(s *api.State) { s.L = s.L[:3] },
		"a task of a node that is begun is gone":        func(s *api.State) { s.L = s.L[1:] },
		"a task more":                                   func(s *api.State) { s.L = append(s.L, 8) },
		"a task is at another place":                    func(s *api.State) { s.L[1] = 6 },
		"a task's step is one less":                     func(s *api.State) { s.L[0] = 9 + 1i },
		"a task's step is two less":                     func(s *api.State) { s.L[0] = 9 },
		"a task's step is one more":                     func(s *api.State) { s.L[0] = 9 + 3i },
		"a task's step is as many as there may be":      func(s *api.State) { s.L[0] = 9 + 5i },
		"all steps of a leaf are done":                  func(s *api.State) { s.L[1] = 6 + 2i; s.H.C[5] = api.Cell{}; s.H.C[0].Ref-- },
		"a step of a leaf whose V is a leaf is done":    func(s *api.State) { s.L[1] = 6 + 1i; s.H.C[5] = api.Cell{}; s.H.C[0].Ref--; s.H.C[6].N.It[0].V = 8 },
		"a step of a leaf is done":                      func(s *api.State) { s.L[1] = 6 + 1i; s.H.C[5] = api.Cell{}; s.H.C[0].Ref-- },
		"a step of what has two Refs is done":           func(s *api.State) { s.L = append(s.L, 2+1i); s.H.C[2].Ref++ },
		"a step of a volume's root is done, of two":     func(s *api.State) { s.L = append(s.L, 3+1i); s.H.C[3].Ref++ },
		"a step of a cell without a Ref is done":        func(s *api.State) { s.L = append(s.L, 7+1i) },
		"a node that is begun tells no right tree":      func(s *api.State) { s.L = append(s.L, 12+1i); s.H.C[12], s.H.C[13] = over(1, 1, 13), over(1, 2, 14) },
		"its second item tells none, the first a leaf":  func(s *api.State) { s.L = append(s.L, 12+1i); s.H.C[12], s.H.C[13] = over(1, 1, 13, 2, 14), leaf(1, 1) },
		"a task is at a tree that isn't right":          func(s *api.State) { s.L = append(s.L, 12); s.H.C[12], s.H.C[13] = over(1, 1, 13), leaf(1, 2) },
		"what is given back is counted as held":         func(s *api.State) { s.H.C[12] = leaf(1, 30) },
		"two tasks are at a node that is begun":         func(s *api.State) { s.L = append(s.L, 9+2i) },
		"two, and two Refs":                             func(s *api.State) { s.L = append(s.L, 9+2i); s.H.C[9].Ref++ },
		"a volume's root is what is begun":              func(s *api.State) { s.V[1].Root = 9; s.H.C[9].Ref++ },
		"two leaves of a tree are not as far from it":   func(s *api.State) { s.H.C[1], s.H.C[20] = over(1, 7, 20), leaf(1, 7) },
		"leaves of the second one below a node aren't":  func(s *api.State) { s.H.C[0], s.H.C[20] = over(3, 1, 20), leaf(1, 1) },
		"a free cell has a node's Ref, and a node":      func(s *api.State) { s.H.C[21] = over(1, 1, 0) },
		"a volume's root is told by another one's node": func(s *api.State) { s.V[1].Root = 4 },
	}
}

// P16.1, P16.2: states that aren't right, though each of their nodes is, and so is their book: none is told.
func TestMountUnright(t *testing.T) {
	is(t, "some", some(), true)
	tells(t, laid(some()), some())
	for what, change := range unright() {
		s := with(some(), change)
		is(t, what, s, false)
		if _, e := Mount(laid(s)); e != api.ErrForm {
			t.Errorf("%s: %d", what, e)
		}
		fails(t, laid(s), api.ErrForm)
	}
}

// P16.2: writes that wait yet, to a slot, an area, a cell, are read as if they were there.
func TestMountWaits(t *testing.T) {
	s := some()
	d := laid(s)
	u := with(s, func(s *api.State) {
		s.Gen, s.Next = 5, 30
		s.H.C[4].N.It[3].V = 777
		s.V[1].Root = 21
		s.H.C[21] = leaf(1, 600)
	})
	next := laid(u)
	waits := whole(d)
	for at, b := range next.B {
		if at != 0 && b != zeros && b != d.B[at] {
			waits.W = append(waits.W, api.Write{At: at, S: b})
		}
	}
	tells(t, waits, u)
	tells(t, disk.Flush(waits), u)
	tells(t, disk.Crash(waits, nil), s)
	for i, w := range waits.W {
		but := whole(waits)
		but.W = slices.Delete(but.W, i, i+1)
		x, e := holds(t, but)
		switch {
		case w.At == 1:
			// The slot ahead counts yet, and of its cells one has another V, which no sum tells.
			if e != api.OK || x.Gen != 4 || x.H.C[4].N.It[3].V != 777 {
				t.Error(w.At, e, x.Gen)
			}
		case w.At == baseOf(22)+4:
			if e != api.OK || x.Gen != 5 || x.H.C[4].N.It[3].V != 131 {
				t.Error(w.At, e, x.Gen)
			}
		default:
			if e != api.ErrForm {
				t.Error(w.At, e)
			}
		}
		// Written over by what waits behind it.
		over := whole(waits)
		over.W = append(over.W, api.Write{At: w.At, S: strings.Repeat("x", 40)})
		holds(t, over)
		over.W = append(over.W, w)
		tells(t, over, u)
	}
}

// P16.1 to P16.3: each block of a disk with other bytes, one by one.
func TestSpoilt(t *testing.T) {
	d, s, _ := commit.Format(111, 2)
	for i := range 6 {
		s, _, _ = state.Create(s)
		s, _ = state.Put(s, 1+i/2, i, i, false)
		d, s, _ = commit.Do(d, s, -1)
	}
	count := map[api.Errno]int{}
	for at := range d.B {
		for i := range 40 {
			_, e := holds(t, spoilt(d, at, i))
			count[e]++
		}
		for _, b := range []string{zeros, d.B[0], d.B[1], d.B[len(d.B)-1]} {
			x := whole(d)
			x.W = append(x.W, api.Write{At: at, S: b})
			holds(t, x)
		}
	}
	if count[api.OK] < 1000 || count[api.ErrForm] < 100 {
		t.Error(count)
	}
}

// P16.3: how many cells have a Ref above 0; 0 and the error of no state.
func TestCheck(t *testing.T) {
	for _, x := range []struct {
		s    api.State
		want int
	}{{some(), 11}, {with(fresh(45), func(s *api.State) { s.Gen = 1 }), 0}, {full(45), 1}, {filled(60), 60}, {filled(2000), 2000}, {full(1), 1}} {
		d := laid(x.s)
		if n, e := Check(d); n != x.want || e != api.OK {
			t.Errorf("%d, %d; not %d", n, e, x.want)
		}
		if n, e := Check(spoilt(d, 2+x.s.Gen%2*areaOf(len(x.s.H.C)), 0)); n != 0 || e != api.ErrForm {
			t.Errorf("%d, %d", n, e)
		}
		if n, e := Check(spoilt(d, x.s.Gen%2, 5)); n != 0 || e != api.ErrNone {
			t.Errorf("%d, %d", n, e)
		}
	}
}

// P16.1: one thing of a state is off, or at the edge of what may be.
func TestRightEdges(t *testing.T) {
	for _, x := range []struct {
		what   string
		change func(s *api.State)
		want   bool
	}{
		{"as it is", func(s *api.State) {}, true},
		{"a Pin of a free cell", func(s *api.State) { s.H.C[7] = pin }, true},
		{"a Pin of each free cell", func(s *api.State) {
			for p := 12; p < 22; p++ {
				s.H.C[p] = pin
			}
		}, true},
		{"a Pin of a cell with a Ref", func(s *api.State) { s.H.C[0].Pin = true }, false},
		{"a Pin of the last cell with a Ref", func(s *api.State) { s.H.C[11].Pin = true }, false},
		{"a node of a free cell", func(s *api.State) { s.H.C[7] = leaf(0, 1) }, false},
		{"a node of a cell with a Pin", func(s *api.State) { s.H.C[7] = leaf(0, 1); s.H.C[7].Pin = true }, false},
		{"a leaf without items of a free cell", func(s *api.State) { s.H.C[7].N.Leaf = true }, false},
		{"no items", func(s *api.State) { s.H.C[1].N.It = nil }, false},
		{"five items", func(s *api.State) { s.H.C[4] = leaf(1, 9, 11, 12, 13, 14) }, false},
		{"a V that is as great as may be", func(s *api.State) { s.H.C[4].N.It[0].V = most }, true},
		{"a V that is greater", func(s *api.State) { s.H.C[4].N.It[0].V = most + 1 }, false},
		{"a V below 0", func(s *api.State) { s.H.C[4].N.It[0].V = -1 }, false},
		{"a Ref below 0", func(s *api.State) { s.H.C[7].Ref = -1 }, false},
		{"a Ref of Most", func(s *api.State) { s.H.C[0].Ref = most }, false},
		{"a Ref that is 2^32 more", func(s *api.State) { s.H.C[0].Ref += 1 << 32 }, false},
		{"Keep 0", func(s *api.State) { s.H.Keep = 0 }, true},
		{"Keep of all cells", func(s *api.State) { s.H.Keep = 22 }, true},
		{"Keep of one more", func(s *api.State) { s.H.Keep = 23 }, false},
		{"Keep -1", func(s *api.State) { s.H.Keep = -1 }, false},
		{"Next just behind the volumes", func(s *api.State) { s.Next = 10 }, true},
		{"Next the last volume's", func(s *api.State) { s.Next = 9 }, false},
		{"Next 0", func(s *api.State) { s.Next = 0 }, false},
		{"Next -1", func(s *api.State) { s.Next = -1 }, false},
		{"Next Most", func(s *api.State) { s.Next = most }, true},
		{"Next above Most", func(s *api.State) { s.Next = most + 1 }, false},
		{"Gen 0", func(s *api.State) { s.Gen = 0 }, true},
		{"Gen -1", func(s *api.State) { s.Gen = -1 }, false},
		{"Gen Most", func(s *api.State) { s.Gen = most }, true},
		{"Gen above Most", func(s *api.State) { s.Gen = most + 1 }, false},
		{"a volume 1", func(s *api.State) { s.V[0].Id = 1 }, true},
		{"a volume 0", func(s *api.State) { s.V[0].Id = 0 }, false},
		{"a volume -1", func(s *api.State) { s.V[0].Id = -1 }, false},
		{"a volume 4 ahead of 5", func(s *api.State) { s.V[0].Id = 4 }, true},
		{"a volume 5 ahead of 5", func(s *api.State) { s.V[0].Id = 5 }, false},
		{"a volume 6 ahead of 5", func(s *api.State) { s.V[0].Id = 6 }, false},
		{"a volume 10", func(s *api.State) { s.V[3].Id = 10 }, true},
		{"a volume 11", func(s *api.State) { s.V[3].Id = 11 }, false},
		{"a root -1", func(s *api.State) { s.V[2].Root = -1; s.H.C[3], s.H.C[4] = api.Cell{}, api.Cell{}; s.H.C[0].Ref-- }, true},
		{"a root -2", func(s *api.State) { s.V[1].Root = -2 }, false},
		{"a root of a free cell", func(s *api.State) { s.V[1].Root = 7 }, false},
		{"a root of a cell with a Pin", func(s *api.State) { s.V[1].Root = 7; s.H.C[7] = pin }, false},
		{"a root behind all cells", func(s *api.State) { s.V[1].Root = 22 }, false},
		{"a root that another one's node tells, with its Ref", func(s *api.State) { s.V[1].Root = 4; s.H.C[4].Ref++ }, true},
		{"a root that a task is at, with its Ref", func(s *api.State) { s.V[1].Root = 5; s.H.C[5].Ref++ }, true},
		{"a root that is given back already", func(s *api.State) { s.V[1].Root = 12; s.H.C[12] = leaf(1, 600) }, true},
		{"a task at the place 22", func(s *api.State) { s.L[1] = 22 }, false},
		{"a begun task at the place 22", func(s *api.State) { s.L[1] = 22 + 1i }, false},
		{"a task at the place -1", func(s *api.State) { s.L = append(s.L, -1) }, false},
		{"a task at half a place", func(s *api.State) { s.L[1] = 5.5 }, false},
		{"half a step", func(s *api.State) { s.L[0] = 9 + 2.5i }, false},
		{"a step below 0", func(s *api.State) { s.L[1] = 5 - 1i }, false},
		{"six steps", func(s *api.State) { s.L[0] = 9 + 6i }, false},
		{"a place that is no number", func(s *api.State) { s.L[1] = complex(math.NaN(), 0) }, false},
		{"steps that are no number", func(s *api.State) { s.L[1] = complex(5, math.NaN()) }, false},
		{"a place without end", func(s *api.State) { s.L[1] = complex(math.Inf(1), 0) }, false},
		{"no task", func(s *api.State) { s.L = nil }, false},
		{"no volume", func(s *api.State) { s.V = nil }, false},
		{"tasks the other way round", func(s *api.State) { slices.Reverse(s.L) }, true},
		{"just one cell", func(s *api.State) { s.H.C = s.H.C[:1] }, false},
		{"no cell behind what nodes tell", func(s *api.State) { s.H.C = s.H.C[:13] }, true},
		{"an item that is given back tells no cell", func(s *api.State) { s.H.C = s.H.C[:12] }, false},
		{"a cell more", func(s *api.State) { s.H.C = append(s.H.C, api.Cell{}) }, true},
	} {
		is(t, x.what, with(some(), x.change), x.want)
	}
	for _, n := range far {
		is(t, "a far Next", with(some(), func(s *api.State) { s.Next = n }), false)
		is(t, "a far Gen", with(some(), func(s *api.State) { s.Gen = n }), false)
		is(t, "a far Keep", with(some(), func(s *api.State) { s.H.Keep = n }), false)
		is(t, "a far number of a volume", with(some(), func(s *api.State) { s.V[3].Id = n }), false)
		is(t, "a far root", with(some(), func(s *api.State) { s.V[1].Root = n }), false)
		is(t, "a far Ref", with(some(), func(s *api.State) { s.H.C[7].Ref = n }), false)
		is(t, "a far task", with(some(), func(s *api.State) { s.L[1] = complex(float64(n), 0) }), false)
		is(t, "a far step", with(some(), func(s *api.State) { s.L[0] = complex(9, float64(n)) }), false)
	}
}

// P16.1: of states without cells, of one, of 2000, and of one more.
func TestRightSizes(t *testing.T) {
	is(t, "nothing", api.State{}, false)
	is(t, "no cell", api.State{Next: 1}, false)
	is(t, "Next 0, without volumes", with(fresh(1), func(s *api.State) { s.Next = 0 }), false)
	is(t, "Next -1, without volumes", with(fresh(45), func(s *api.State) { s.Next = -1 }), false)
	for _, n := range []int{1, 2, 1999, 2000} {
		is(t, "free cells", fresh(n), true)
		is(t, "with tasks and volumes", full(n), true)
	}
	is(t, "2000 cells that are used", filled(2000), true)
	is(t, "2001 cells", with(fresh(2000), func(s *api.State) { s.H.C = append(s.H.C, api.Cell{}) }), false)
	is(t, "2001 cells, some used", with(filled(2000), func(s *api.State) { s.H.C = append(s.H.C, api.Cell{}) }), false)
	is(t, "a Ref off, of 2000 cells", with(filled(2000), func(s *api.State) { s.H.C[1000].Ref++ }), false)
}

// P16.1: 20 volumes and 500 tasks are right, one more isn't.
func TestRightMany(t *testing.T) {
	s := full(45)
	is(t, "full", s, true)
	is(t, "a volume more", with(s, func(s *api.State) { s.V = append(s.V, api.Vol{Id: 21, Root: -1}); s.Next = 22 }), false)
	is(t, "a task more", with(s, func(s *api.State) { s.L = append(s.L, 44); s.H.C[44].Ref++ }), false)
	is(t, "a task less", with(s, func(s *api.State) { s.L = s.L[1:]; s.H.C[44].Ref-- }), true)
	is(t, "a volume less", with(s, func(s *api.State) { s.V = s.V[1:] }), true)
}

// tower is a state of one volume, whose tree is as high as is told, with one item a node.
func tower(high int) api.State {
	s := api.State{H: api.Heap{C: []api.Cell{leaf(1, 5)}}, V: []api.Vol{{Id: 1, Root: high - 1}}, Next: 2, Gen: 1}
	for p := range high - 1 {
		s.H.C = append(s.H.C, over(1, 5, p))
	}
	return s
}

// P16.1, P16.2: a tree may be 20 high, a volume's and a task's, and what a begun task's items tell, too.
func TestRightHigh(t *testing.T) {
	for _, high := range []int{1, 2, 19, 20, 21, 22, 40} {
		s := tower(high)
		is(t, "a volume's", s, high <= 20)
		_, e := holds(t, laid(s))
		if (e == api.OK) != (high <= 20) {
			t.Errorf("%d high: %d", high, e)
		}
		s.V, s.L = nil, []complex128{complex(float64(high-1), 0)}
		is(t, "a task's", s, high <= 20)
		if high > 1 {
			s.L[0] = complex(float64(high-1), 1)
			is(t, "a begun task's", s, high <= 21)
		}
	}
}

// P16.1: behind each step of the cleaner a state is right; with a task's step one more or less, or a Ref more, it isn't.
func TestRightSteps(t *testing.T) {
	begun := 0
	for _, s := range []api.State{some(), filled(60), tower(20)} {
		for len(s.V) > 0 {
			s, _ = state.Drop(s, s.V[0].Id)
		}
		for len(s.L) > 0 {
			s = state.Step(s)
			is(t, "behind a step", s, true)
			for i, x := range s.L {
				if imag(x) == 0 {
					continue
				}
				begun++
				is(t, "a step more", with(s, func(s *api.State) { s.L[i] += 1i }), rightOf(with(s, func(s *api.State) { s.L[i] += 1i })))
				is(t, "a step less", with(s, func(s *api.State) { s.L[i] -= 1i }), rightOf(with(s, func(s *api.State) { s.L[i] -= 1i })))
				is(t, "a Ref more", with(s, func(s *api.State) { s.H.C[todo.Place(x)].Ref++ }), false)
			}
		}
	}
	if begun < 200 {
		t.Errorf("just %d tasks that are begun", begun)
	}
}

// off changes one thing of a state, which is drawn.
func off(pick func(n int) int, s *api.State) {
	p := pick(len(s.H.C))
	c := &s.H.C[p]
	by := pick(3) - 1
	switch pick(12) {
	case 0:
		c.Ref += by
	case 1:
		c.Pin = !c.Pin
	case 2:
		c.N.Leaf = !c.N.Leaf
	case 3:
		s.H.C[p] = s.H.C[pick(len(s.H.C))]
	case 4, 5:
		if len(c.N.It) > 0 {
			c.N.It[pick(len(c.N.It))].K += by
		}
	case 6, 7:
		if len(c.N.It) > 0 {
			c.N.It[pick(len(c.N.It))].V += by
		}
	case 8:
		if len(s.V) > 0 {
			s.V[pick(len(s.V))].Root += by
		}
	case 9:
		if len(s.V) > 0 {
			s.V[pick(len(s.V))].Id += by
		}
	case 10:
		if len(s.L) > 0 {
			s.L[pick(len(s.L))] += complex(float64(by), 0)
		}
	default:
		if len(s.L) > 0 {
			s.L[pick(len(s.L))] += complex(0, float64(by))
		}
	}
}

// chance does to a state what is drawn.
func chance(pick func(n int) int, s api.State) api.State {
	id := 1 + pick(s.Next)
	switch do := pick(20); {
	case do < 2:
		s, _, _ = state.Create(s)
	case do < 4:
		s, _, _ = state.Snap(s, id)
	case do < 6:
		s, _ = state.Drop(s, id)
	case do < 14:
		s, _ = state.Put(s, id, pick(40), pick(1000), pick(2) == 0)
	case do < 16:
		s, _ = state.Del(s, id, pick(40))
	default:
		s = state.Step(s)
	}
	return s
}

// P16.1, P16.2: states that are drawn, and those of which one thing, or some, are off.
func TestRightDrawn(t *testing.T) {
	count := map[bool]int{}
	for seed := range 30 {
		pick := picker(seed)
		s := fresh(20 + pick(40))
		s.Gen = 1 + pick(4)
		for range 60 {
			s = chance(pick, s)
			is(t, "drawn", s, true)
			for range 6 {
				u := with(s, func(u *api.State) {
					*u = settled(*u)
					for range 1 + pick(2) {
						off(pick, u)
					}
				})
				want := rightOf(u)
				is(t, "off", u, want)
				count[want]++
				if pick(6) == 0 {
					holds(t, laid(u))
				}
			}
		}
	}
	if count[true] < 2000 || count[false] < 2000 {
		t.Error(count)
	}
}

// P16.4: behind a commit that is done, the state that was committed, without Pins, of the next Gen; of states with Pins, volumes and tasks, of all kinds of Gens.
func TestCommitted(t *testing.T) {
	for _, s := range []api.State{fresh(1), fresh(45), pinned(12), pinned(45), some(), full(45), filled(60), filled(2000)} {
		for _, gen := range []int{0, 1, 2, 65535, most - 2, most - 1} {
			s.Gen = gen
			n := len(s.H.C)
			pins := slices.ContainsFunc(s.H.C, func(c api.Cell) bool { return c.Pin })
			d, u, e := commit.Do(blank(n), s, -1)
			if e != api.OK || pins && same(s, u) {
				t.Fatal(e)
			}
			tells(t, d, settled(s))
			tells(t, d, u)
			if many, e := Check(d); e != api.OK || many > n {
				t.Error(many, e)
			}
		}
	}
}

// stopped holds what a commit leaves, stopped behind each of its steps, of what the disk held ahead: with all that waits kept, with nothing, with some, and waiting yet. It is whichever state the slot tells.
func stopped(t *testing.T, pick func(n int) int, d api.Disk, ahead, s api.State) {
	t.Helper()
	n, _ := commit.Many(d, s)
	for stop := range n + 1 {
		x, _, _ := commit.Do(d, s, stop)
		all := slices.Repeat([]bool{true}, len(x.W))
		slotWaits := len(x.W) > 0 && stop == n-1
		want := ahead
		if stop == n || slotWaits {
			want = settled(s)
		}
		tells(t, x, want)
		tells(t, disk.Crash(x, all), want)
		if stop < n {
			want = ahead
		}
		tells(t, disk.Crash(x, nil), want)
		for range min(len(x.W), 4) {
			keep := slices.Clone(all)
			for i := range keep {
				keep[i] = pick(2) == 0
			}
			want := ahead
			if stop == n || slotWaits && keep[0] {
				want = settled(s)
			}
			tells(t, disk.Crash(x, keep), want)
		}
	}
}

// P16.4: a commit of a state that follows, stopped behind each of its steps: the state ahead, or that one. What was stopped and lost is committed again behind it.
func TestStopped(t *testing.T) {
	full, done := 0, 0
	for seed := range 20 {
		pick := picker(seed)
		n := 20 + pick(40)
		d, ahead, e := commit.Format(plan.Base(n)+n, pick(4))
		if e != api.OK {
			t.Fatal(e)
		}
		s := ahead
		for range 12 {
			for range 1 + pick(10) {
				s = chance(pick, s)
			}
			if !commit.Follows(ahead, s) {
				t.Fatal("it doesn't follow")
			}
			stopped(t, pick, d, ahead, s)
			if len(s.L) > 0 && len(s.V) > 0 {
				full++
			}
			if pick(3) == 0 {
				// The crash loses what was done behind the last commit.
				many, _ := commit.Many(d, s)
				x, _, _ := commit.Do(d, s, pick(many))
				keep := make([]bool, len(x.W))
				for i := range keep {
					keep[i] = pick(2) == 0
				}
				d = disk.Crash(x, keep)
				s, e = holds(t, d)
				if e != api.OK || s.Gen != ahead.Gen && s.Gen != ahead.Gen+1 {
					t.Fatal(e, s.Gen)
				}
			} else {
				d, s, _ = commit.Do(d, s, -1)
				done++
			}
			ahead = s
		}
	}
	if full < 20 || done < 60 {
		t.Errorf("just %d states with tasks and volumes, and %d commits", full, done)
	}
}

// P16.4: a commit of which a write that waits is kept, each alone.
func TestStoppedAlone(t *testing.T) {
	d, ahead, _ := commit.Format(plan.Base(45)+45, 0)
	d, ahead, _ = commit.Do(d, pinnedBehind(ahead), -1)
	s, _ := state.Put(ahead, 1, 99, 1, false)
	s, _, _ = state.Snap(s, 1)
	s, _ = state.Drop(s, 1)
	n, _ := commit.Many(d, s)
	for stop := range n {
		x, _, _ := commit.Do(d, s, stop)
		for i := range x.W {
			for _, but := range []bool{false, true} {
				keep := slices.Repeat([]bool{but}, len(x.W))
				keep[i] = !but
				want := ahead
				if stop == n-1 && !but {
					want = settled(s)
				}
				tells(t, disk.Crash(x, keep), want)
			}
		}
	}
}

// pinnedBehind is a state with some volumes, Pins and a task behind another one.
func pinnedBehind(s api.State) api.State {
	s, a, _ := state.Create(s)
	for k := range 9 {
		s, _ = state.Put(s, a, k, 10*k, false)
	}
	s, b, _ := state.Snap(s, a)
	s, _ = state.Put(s, a, 3, 1, false)
	s, _ = state.Drop(s, b)
	return s
}

// P16.4: what a disk held is lost, where a state that doesn't follow is committed, and stopped: so the words ask for one that does.
func TestNotFollowing(t *testing.T) {
	d, s, _ := commit.Format(plan.Base(20)+20, 0)
	s, a, _ := state.Create(s)
	s, _ = state.Put(s, a, 1, 1, false)
	d, s, _ = commit.Do(d, s, -1)
	u := with(s, func(s *api.State) { s.H.C[s.V[0].Root].N.It[0].V = 2 })
	if commit.Follows(s, u) {
		t.Fatal("it follows")
	}
	x, _, _ := commit.Do(d, u, 1)
	if m, e := holds(t, disk.Flush(x)); e != api.OK || same(m, s) || same(m, settled(u)) {
		t.Error(e)
	}
}

// R1: no call panics, or doesn't end, at what no chapter speaks of.
func TestEnds(t *testing.T) {
	astray := laid(some())
	astray.W = []api.Write{{At: -1}, {At: -5, S: "x"}, {At: math.MaxInt, S: zeros}, {At: 0, S: "short"}, {At: 3}}
	short := laid(some())
	for i := 2; i < len(short.B); i++ {
		short.B[i] = ""
	}
	odd := laid(some())
	odd.B[0] = odd.B[0] + "x"
	long := laid(filled(2000))
	long.B = append(long.B, slices.Repeat([]string{zeros}, 3000)...)
	most := super(blank(1), 1, api.Super{Gen: most, Size: 1633})
	for _, d := range []api.Disk{{}, astray, short, odd, long, most, {B: make([]string, 2)}, {B: make([]string, 5000)}, {W: []api.Write{{At: 3}}}, {W: []api.Write{{At: 0, S: odd.B[1]}}}} {
		Super(d)
		Mount(d)
		Check(d)
	}
	ring := fresh(22)
	for p := range 22 {
		ring.H.C[p] = over(4, 1, (p+1)%22, 2, (p+2)%22, 3, (p+3)%22, 4, p)
	}
	ring.V, ring.Next = []api.Vol{{Id: 1, Root: 3}}, 2
	for _, s := range []api.State{ring, {L: []complex128{complex(math.NaN(), math.Inf(-1))}}, {V: []api.Vol{{Id: 1, Root: 5}}, Next: 2}, with(ring, func(s *api.State) { s.V, s.L = nil, []complex128{1 + 5i, 2 + 1i} })} {
		if Right(s) {
			t.Errorf("%v is right", s)
		}
	}
	// All ways through such nodes are more than could be gone.
	high := fresh(22)
	for p := range 21 {
		high.H.C[p] = over(4, 1, p+1, 2, p+1, 3, p+1, 4, p+1)
	}
	high.H.C[0].Ref, high.H.C[21] = 1, leaf(4, 1, 2, 3, 4)
	high.V, high.Next = []api.Vol{{Id: 1, Root: 1}}, 2
	if Right(high) {
		t.Error("is right")
	}
}

// R1: what is told of a disk on which very many writes wait comes soon.
func TestManyWaiting(t *testing.T) {
	s := filled(2000)
	d := laid(s)
	for i := range 1 << 20 {
		d.W = append(d.W, api.Write{At: 2 + i%2, S: d.B[2+i%2]})
	}
	if x, e := Mount(d); e != api.OK || !same(x, s) {
		t.Error(e)
	}
}

// R1: whether a state is right comes soon, of as many cells and tasks as there may be, many of them at one place.
func TestManyTasks(t *testing.T) {
	s := filled(2000)
	root := s.V[0].Root
	s.V = nil
	for range 500 - len(s.L) {
		s.L = append(s.L, complex(float64(root), 0))
	}
	s.H.C[root].Ref = 281
	is(t, "many tasks of one root", s, len(s.L) == 500 && rightOf(s))
	for i := range s.L {
		s.L[i] = complex(float64(root), 1)
	}
	s.H.C[root].Ref = 1
	is(t, "many that are begun", s, false)
}

// R3: what is handed in isn't written into, not even behind its end.
func TestHandedIn(t *testing.T) {
	s := some()
	d := laid(s)
	d.W = []api.Write{{At: 3, S: zeros}, {At: 80, S: zeros}}
	d.B = append(make([]string, 0, 400), d.B...)
	d.W = append(make([]api.Write, 0, 400), d.W...)
	s.H.C = append(make([]api.Cell, 0, 400), s.H.C...)
	s.V = append(make([]api.Vol, 0, 400), s.V...)
	s.L = append(make([]complex128, 0, 400), s.L...)
	behind := api.State{H: api.Heap{C: s.H.C[:400]}, V: s.V[:400], L: s.L[:400]}
	ownB, ownW, own := slices.Clone(d.B[:400]), slices.Clone(d.W[:400]), deep(behind)
	holds(t, d)
	is(t, "some", s, true)
	if !slices.Equal(d.B[:400], ownB) || !slices.Equal(d.W[:400], ownW) || !same(behind, own) {
		t.Error("what lies behind the ends is changed")
	}
}

// R3: two answers of one disk are changed apart.
func TestAnswersAreTheirOwn(t *testing.T) {
	d := laid(some())
	s, _ := Mount(d)
	u, _ := Mount(d)
	for p := range u.H.C {
		for i := range u.H.C[p].N.It {
			u.H.C[p].N.It[i].V = -1
		}
		_ = append(u.H.C[p].N.It, api.Item{K: -1, V: -1})
		u.H.C[p].Ref = -1
	}
	_ = append(u.H.C, api.Cell{Ref: 77})
	u.V[0], u.L[0] = api.Vol{}, 77
	if !same(s, some()) {
		t.Error("another answer is changed")
	}
	tells(t, d, some())
	d.B[80], d.B[3] = "", ""
	if !same(s, some()) {
		t.Error("an answer is changed with the disk")
	}
}

// R4: the same is answered to the same, whatever was asked between, and wherever that lies.
func TestSameAnswers(t *testing.T) {
	d := laid(some())
	first, _ := Mount(d)
	for range 5 {
		Mount(laid(filled(60)))
		Check(blank(3))
		Right(api.State{})
		s, e := Mount(whole(d))
		n, f := Check(whole(d))
		if e != api.OK || f != api.OK || n != 11 || !same(s, first) || !Right(deep(s)) || !heap.Same(s.H, first.H) {
			t.Error("not the same")
		}
	}
}
