package dir

import (
	"math"
	"slices"
	"strings"
	"testing"

	"assart/api"
	"assart/heap"
	"assart/inode"
	"assart/mount"
	"assart/name"
	"assart/state"
)

const (
	most = 1<<31 - 1
	wide = 1 << 20
)

// far are numbers that are no volume's, no inode's, and no place; the keys of some go round to those of items that are there.
var far = []int{math.MinInt, math.MinInt + 1, math.MinInt + 2, -1 << 44, 1 - 1<<44, -1 << 43, -1 << 32, -1 << 31, -1<<31 + 1, -1 << 20, -1<<20 + 1, -1<<20 + 2, -2, -1, 1 << 31, 1<<31 + 1, 1 << 32, 1<<32 + 1, 1 << 43, 1<<44 - 1, 1 << 44, 1<<44 + 1, 1<<44 + 2, 1<<44 + 3, math.MaxInt - 1, math.MaxInt}

// picker is a row of numbers that look as if they were drawn; the same for the same seed.
func picker(seed int) func(n int) int {
	x := uint64(seed)*2654435761 + 12345
	return func(n int) int {
		x = x*6364136223846793005 + 1442695040888963407
		return int(x>>33) % n
	}
}

// deep is a state's copy, in memory of its own.
func deep(s api.State) api.State {
	s.H.C = slices.Clone(s.H.C)
	for p := range s.H.C {
		s.H.C[p].N.It = slices.Clone(s.H.C[p].N.It)
	}
	s.V, s.L = slices.Clone(s.V), slices.Clone(s.L)
	return s
}

// same: are two states the same, all of them?
func same(a, b api.State) bool {
	cells := slices.EqualFunc(a.H.C, b.H.C, func(x, y api.Cell) bool {
		return x.Ref == y.Ref && x.Pin == y.Pin && x.N.Leaf == y.N.Leaf && slices.Equal(x.N.It, y.N.It)
	})
	return cells && a.H.Keep == b.H.Keep && slices.Equal(a.V, b.V) && slices.Equal(a.L, b.L) && a.Next == b.Next && a.Gen == b.Gen
}

// row is an item of an inode.
type row struct{ ino, x, val int }

// filled is a state with items of inodes of a volume, put one by one, as chapter 12 says; nothing waits.
func filled(t *testing.T, s api.State, id int, l ...row) api.State {
	t.Helper()
	for _, r := range l {
		var e api.Errno
		if s, e = state.Put(s, id, wide*r.ino+r.x, r.val, false); e != api.OK {
			t.Fatalf("%v: %d", r, e)
		}
		s.H = heap.Settle(s.H)
	}
	return s
}

// without is a state without an item of an inode of a volume.
func without(t *testing.T, s api.State, id, ino, x int) api.State {
	t.Helper()
	s, e := state.Del(s, id, wide*ino+x)
	if e != api.OK {
		t.Fatalf("%d, %d: %d", ino, x, e)
	}
	s.H = heap.Settle(s.H)
	return s
}

// bare is a state of volumes from 1 on, as many as said, without items.
func bare(t *testing.T, cells, vols int) api.State {
	t.Helper()
	s, e := state.New(cells, 9)
	for range vols {
		if e == api.OK {
			s, _, e = state.Create(s)
		}
	}
	if e != api.OK {
		t.Fatal(e)
	}
	return s
}

// lone is a state of one volume, of these items.
func lone(t *testing.T, l ...row) api.State {
	t.Helper()
	return filled(t, bare(t, 400, 1), 1, l...)
}

// some is a state of six volumes. 1 and 5 are one tree: many directories and files. 2 has no item. Of 3 nothing is as it ought to be. In 4 inode 1 is a file. 6 was a snapshot of 1, and has entries of its own.
func some(t *testing.T) api.State {
	s := bare(t, 400, 4)
	s = filled(t, s, 1, row{0, 0, 20}, row{1, 0, 1},
		row{1, 1, 2}, row{1, 3, 3}, row{1, 26, 2047}, row{1, 28, 5}, row{1, 531440, 6},
		row{2, 0, 1}, row{2, 2, 7}, row{2, 30, 8}, row{2, 40, 10},
		row{3, 0, 2}, row{3, 1, 11}, row{3, 5, 0}, row{3, wide - 1, most},
		row{5, 0, 2}, row{6, 0, 2}, row{6, 7, 70}, row{7, 0, 2}, row{7, 9, 3},
		row{8, 0, 1}, row{8, 1, 9}, row{8, 2, 12}, row{9, 0, 1}, row{10, 0, 1}, row{12, 0, 2}, row{12, wide - 1, 1}, row{2047, 0, 1})
	s = filled(t, s, 3, row{0, 0, 1}, row{0, 1, 1}, row{0, 5, 3}, row{1, 0, 1}, row{1, 1, 0}, row{1, 2, 2048}, row{1, 3, 1}, row{1, 4, 4}, row{1, 5, 5}, row{1, 6, most}, row{1, 7, 7}, row{1, 27, 2}, row{1, wide - 1, 6},
		row{2, 0, 1}, row{2, 1, 2}, row{2, 2, 2}, row{2, 54, 3}, row{2, 531441, 6}, row{3, 0, 2}, row{3, 1, 2}, row{4, 0, 0}, row{4, 1, 2}, row{5, 1, 2}, row{6, 0, 3}, row{6, 1, 2}, row{7, 0, most}, row{7, 1, 1}, row{8, 0, 4})
	s = filled(t, s, 4, row{0, 0, 3}, row{1, 0, 2}, row{1, 1, 2}, row{2, 0, 1}, row{2, 1, 1})
	s, _, e := state.Snap(s, 1)
	s, _, f := state.Snap(s, 1)
	if e != api.OK || f != api.OK {
		t.Fatal(e, f)
	}
	s = filled(t, s, 6, row{0, 1, 30}, row{9, 1, 13}, row{13, 0, 2}, row{13, 1, 5})
	return without(t, s, 6, 1, 3)
}

// model is what a volume's items tell, inode by inode, place by place; worked out from all of them, as chapter 12's Items tells them.
type model map[int]map[int]int

func modelOf(s api.State, id int) model {
	l, _ := state.Items(s, id)
	m := model{}
	for _, x := range l {
		ino := x.K / wide
		if m[ino] == nil {
			m[ino] = map[int]int{}
		}
		m[ino][x.K%wide] = x.V
	}
	return m
}

// kind is Kind, worked out apart from it, by the words alone.
func (m model) kind(ino int) int {
	head, is := m[ino][0]
	if ino >= 1 && ino <= 2047 && is && (head == 1 || head == 2) {
		return head
	}
	return 0
}

// look is Look, likewise.
func (m model) look(ino, n int) (int, api.Errno) {
	if m.kind(ino) != 1 {
		return 0, api.ErrKind
	}
	if v, is := m[ino][n]; is && n != 0 {
		return v, api.OK
	}
	return 0, api.ErrNone
}

// walk is Walk, likewise.
func (m model) walk(path []int) (int, api.Errno) {
	if len(path) == 0 {
		if m.kind(1) == 1 {
			return 1, api.OK
		}
		return 0, api.ErrKind
	}
	last := len(path) - 1
	ino, e := m.walk(path[:last])
	if e != api.OK {
		return 0, e
	}
	return m.look(ino, path[last])
}

// parent is Parent, likewise.
func (m model) parent(path []int) (int, int, api.Errno) {
	if len(path) == 0 {
		return 0, 0, api.ErrArg
	}
	last := len(path) - 1
	switch ino, e := m.walk(path[:last]); {
	case e != api.OK:
		return 0, 0, e
	case m.kind(ino) != 1:
		return 0, 0, api.ErrKind
	default:
		return ino, path[last], api.OK
	}
}

// text is a name, or nothing, if that is no name's number.
func text(n int) string {
	s := ""
	for ; n > 0; n /= 27 {
		if n%27 == 0 {
			return ""
		}
		s = "abcdefghijklmnopqrstuvwxyz"[n%27-1:n%27] + s
	}
	if len(s) > 4 {
		return ""
	}
	return s
}

// links are the entries of all directories that paths lead to, if no more than so many are gone through: the place, the directory and what is told of each.
func (m model) links() []row {
	dirs, l := []int{1}, []row(nil)
	for i := 0; i < len(dirs); i++ {
		for x, ino := range m[dirs[i]] {
			if x == 0 {
				continue
			}
			l = append(l, row{dirs[i], x, ino})
			if m.kind(ino) == 1 && !slices.Contains(dirs, ino) {
				dirs = append(dirs, ino)
			}
		}
	}
	return l
}

// whole is Whole, likewise: of the links between all directories that paths lead to, each apart.
func (m model) whole() bool {
	if m.kind(1) != 1 {
		return false
	}
	times := map[int]int{1: 1}
	up := map[int]int{}
	for x, ino := range m[0] {
		if x > 0 {
			times[ino]++
		}
	}
	for _, y := range m.links() {
		if times[y.val]++; text(y.x) == "" || m.kind(y.val) == 0 {
			return false
		}
		up[y.val] = y.ino
	}
	if times[1] > 1 {
		return false
	}
	for ino := range up {
		if times[ino] > 1 {
			return false
		}
	}
	for ino := range up {
		names := 0
		for ; ino != 1; ino = up[ino] {
			names++
		}
		if names > 20 {
			return false
		}
	}
	return true
}

// tree is Tree of a volume that is whole, likewise: each path is gone up from its end, and all are in the order of their rows of names.
func (m model) tree() []api.Entry {
	up := map[int]row{}
	for _, y := range m.links() {
		up[y.val] = y
	}
	pathOf := func(ino int) []int {
		var path []int
		for ; ino != 1; ino = up[ino].ino {
			path = slices.Insert(path, 0, up[ino].x)
		}
		return path
	}
	var inos []int
	for ino := range up {
		inos = append(inos, ino)
	}
	slices.SortFunc(inos, func(a, b int) int { return slices.Compare(pathOf(a), pathOf(b)) })
	var l []api.Entry
	for _, ino := range inos {
		x := api.Entry{Kind: m.kind(ino)}
		for _, n := range pathOf(ino) {
			x.Path += "/" + text(n)
		}
		for at, v := range m[ino] {
			if at > 0 && x.Kind == 2 {
				x.C = append(x.C, api.Item{K: at - 1, V: v})
			}
		}
		slices.SortFunc(x.C, func(a, b api.Item) int { return a.K - b.K })
		l = append(l, x)
	}
	return l
}

// alike: is what is seen the same?
func alike(a, b []api.Entry) bool {
	return slices.EqualFunc(a, b, func(x, y api.Entry) bool {
		return x.Path == y.Path && x.Kind == y.Kind && slices.Equal(x.C, y.C)
	})
}

func holdsLook(t *testing.T, s api.State, m model, id, ino, n int) {
	t.Helper()
	if got, want := Kind(s, id, ino), m.kind(ino); got != want {
		t.Fatalf("Kind of %d, %d: %d, not %d", id, ino, got, want)
	}
	want, f := m.look(ino, n)
	if got, e := Look(s, id, ino, n); got != want || e != f {
		t.Fatalf("Look in %d, %d, %d: %d, %d; not %d, %d", id, ino, n, got, e, want, f)
	}
}

// holdsWalk holds Walk and Parent of a path against what was worked out apart, and against one another.
func holdsWalk(t *testing.T, s api.State, m model, id int, path []int) {
	t.Helper()
	was := slices.Clone(path)
	want, f := m.walk(path)
	got, e := Walk(s, id, path)
	if got != want || e != f {
		t.Fatalf("Walk in %d, %v: %d, %d; not %d, %d", id, path, got, e, want, f)
	}
	over, last, f := m.parent(path)
	ino, n, g := Parent(s, id, path)
	if ino != over || n != last || g != f {
		t.Fatalf("Parent in %d, %v: %d, %d, %d; not %d, %d, %d", id, path, ino, n, g, over, last, f)
	}
	if len(path) > 0 && g != api.OK && g != e {
		t.Fatalf("%d, %v: Parent tells %d, and Walk %d", id, path, g, e)
	}
	if g == api.OK {
		if at, h := Look(s, id, ino, n); at != got || h != e {
			t.Fatalf("%d, %v: Parent and Look tell %d, %d, and Walk %d, %d", id, path, at, h, got, e)
		}
	}
	if !slices.Equal(path, was) {
		t.Fatalf("%d: the path %v is %v now", id, was, path)
	}
}

// holdsTree holds Tree and Whole against what was worked out apart, and all that Tree tells against Walk; and tells whether the volume is whole.
func holdsTree(t *testing.T, s api.State, id int) bool {
	t.Helper()
	m := modelOf(s, id)
	is := Whole(s, id)
	if is != m.whole() {
		t.Fatalf("Whole of %d, %v: %t", id, m, is)
	}
	l := Tree(s, id)
	if !is {
		if len(l) > 0 {
			t.Fatalf("Tree of %d, which isn't whole: %v", id, l)
		}
		return false
	}
	if want := m.tree(); !alike(l, want) {
		t.Fatalf("Tree of %d: %v, not %v", id, l, want)
	}
	paths := map[string]int{}
	for _, x := range l {
		path, e := name.Path(x.Path)
		ino, f := Walk(s, id, path)
		if paths[x.Path]++; paths[x.Path] > 1 || e != api.OK || f != api.OK || Kind(s, id, ino) != x.Kind || x.Kind == 0 {
			t.Fatalf("Tree of %d: %v, but Walk tells %d, %d", id, x, ino, f)
		}
		holdsWalk(t, s, m, id, path)
	}
	return true
}

// tells holds what Tree tells of a volume that is whole against entries that are told by hand.
func tells(t *testing.T, what string, s api.State, id int, want ...api.Entry) {
	t.Helper()
	if !holdsTree(t, s, id) {
		t.Errorf("%s isn't whole", what)
	}
	if l := Tree(s, id); !alike(l, want) {
		t.Errorf("%s: %v, not %v", what, l, want)
	}
}

// chain is a directory in a directory and so on, each of the name a, as many as said; what the last one tells is of the kind said. Its rows are in order of inodes.
func chain(many, kind int) []row {
	l := []row{{0, 0, many + 2}, {1, 0, 1}}
	for ino := 1; ino <= many; ino++ {
		l = append(l, row{ino, 1, ino + 1}, row{ino + 1, 0, 1})
	}
	l[len(l)-1].val = kind
	return l
}

// The chapter's example: of a directory a with a file b in it: /a, /a/b.
func TestExample(t *testing.T) {
	s, e := inode.Setup(bare(t, 60, 1), 1)
	s, a, f := inode.Make(s, 1, api.Dir)
	s, b, g := inode.Make(s, 1, api.File)
	s, h := inode.Set(s, 1, 1, 1, a)
	s, i := inode.Set(s, 1, a, 2, b)
	if e != api.OK || f != api.OK || g != api.OK || h != api.OK || i != api.OK {
		t.Fatal(e, f, g, h, i)
	}
	tells(t, "the example", s, 1, api.Entry{Path: "/a", Kind: 1}, api.Entry{Path: "/a/b", Kind: 2})
	if ino, e := Walk(s, 1, []int{1, 2}); ino != b || e != api.OK {
		t.Error(ino, e)
	}
}

// P19.1: what an inode is: what its head tells, if that is 1 or 2, else 0.
func TestKind(t *testing.T) {
	s := some(t)
	for _, x := range []struct{ id, ino, kind int }{
		{1, 0, 0}, {1, 1, 1}, {1, 2, 1}, {1, 3, 2}, {1, 4, 0}, {1, 5, 2}, {1, 6, 2}, {1, 7, 2}, {1, 8, 1}, {1, 11, 0}, {1, 13, 0}, {1, 2046, 0}, {1, 2047, 1}, {1, 2048, 0}, {1, 2049, 0}, {1, most, 0}, {1, -1, 0},
		{2, 0, 0}, {2, 1, 0}, {2, 2, 0}, {2, 2047, 0},
		{3, 0, 0}, {3, 1, 1}, {3, 3, 2}, {3, 4, 0}, {3, 5, 0}, {3, 6, 0}, {3, 7, 0}, {3, 8, 0},
		{4, 1, 2}, {4, 2, 1}, {5, 1, 1}, {5, 13, 0}, {5, 2047, 1}, {6, 3, 2}, {6, 13, 2}, {6, 2048, 0},
		{0, 1, 0}, {7, 1, 0}, {7, 2, 0}, {-1, 1, 0}, {most, 1, 0},
	} {
		if k := Kind(s, x.id, x.ino); k != x.kind {
			t.Errorf("%v: %d", x, k)
		}
	}
	for _, n := range far {
		if j, k := Kind(s, n, 1), Kind(s, 1, n); j != 0 || k != 0 {
			t.Errorf("%d: %d, %d", n, j, k)
		}
	}
	for _, head := range []int{0, 1, 2, 3, 4, 100, 1 << 20, 1<<20 + 1, 1 << 30, most} {
		want := 0
		if head == 1 || head == 2 {
			want = head
		}
		// Inode 0's head is a number, whatever it is; others' are kinds.
		l := lone(t, row{0, 0, head}, row{1, 0, head}, row{5, 0, head}, row{2047, 0, head})
		for ino, kind := range map[int]int{0: 0, 1: want, 5: want, 2047: want, 2048: 0, 2: 0, -1: 0} {
			if k := Kind(l, 1, ino); k != kind {
				t.Errorf("the head %d of %d: %d", head, ino, k)
			}
		}
	}
	// Items alone, without a head, are nothing; nor is the head of the inode ahead, or behind.
	l := lone(t, row{3, 0, 1}, row{4, 1, 1}, row{4, wide - 1, 2}, row{5, 0, 2})
	if k := Kind(l, 1, 4); k != 0 {
		t.Errorf("without a head: %d", k)
	}
}

// P19.1: all inodes' kinds of volumes that are there and that aren't.
func TestKindAll(t *testing.T) {
	s := some(t)
	for id := range 8 {
		m := modelOf(s, id)
		for ino := -3; ino < 2100; ino++ {
			if k := Kind(s, id, ino); k != m.kind(ino) {
				t.Fatalf("%d, %d: %d", id, ino, k)
			}
		}
	}
}

// P19.1: what a directory's entry tells: the first one, the last one, of the least and the greatest name.
func TestLook(t *testing.T) {
	s := some(t)
	for _, x := range []struct{ id, ino, n, want int }{
		{1, 1, 1, 2}, {1, 1, 3, 3}, {1, 1, 26, 2047}, {1, 1, 28, 5}, {1, 1, 531440, 6}, {1, 2, 2, 7}, {1, 2, 30, 8}, {1, 2, 40, 10}, {1, 8, 1, 9}, {1, 8, 2, 12},
		{3, 1, 1, 0}, {3, 1, 2, 2048}, {3, 1, 3, 1}, {3, 1, 6, most}, {3, 1, 27, 2}, {3, 1, wide - 1, 6}, {3, 2, 2, 2}, {3, 2, 531441, 6},
		{4, 2, 1, 1}, {5, 1, 1, 2}, {5, 1, 3, 3}, {6, 1, 1, 2}, {6, 9, 1, 13},
	} {
		if ino, e := Look(s, x.id, x.ino, x.n); ino != x.want || e != api.OK {
			t.Errorf("%v: %d, %d", x, ino, e)
		}
	}
	l := lone(t, row{1, 0, 1}, row{1, 1, 4}, row{1, wide - 1, 5}, row{2, 0, 1}, row{2, 1, 6}, row{2047, 0, 1}, row{2047, wide - 1, 7})
	for _, x := range [][3]int{{1, 1, 4}, {1, wide - 1, 5}, {2, 1, 6}, {2047, wide - 1, 7}} {
		if ino, e := Look(l, 1, x[0], x[1]); ino != x[2] || e != api.OK {
			t.Errorf("%v: %d, %d", x, ino, e)
		}
	}
}

// P19.1: ErrNone, and 0, if a directory has no such entry: its head is none, nor is another inode's item, whatever the number.
func TestLookNone(t *testing.T) {
	s := some(t)
	for _, x := range [][3]int{
		{1, 1, 2}, {1, 1, 4}, {1, 1, 27}, {1, 1, 531439}, {1, 1, 531441}, {1, 1, wide - 1}, {1, 2, 1}, {1, 2, 3}, {1, 2, 41}, {1, 9, 1}, {1, 2047, 1}, {1, 2047, wide - 1}, {5, 9, 1}, {6, 1, 3}, {3, 2, 27},
	} {
		if ino, e := Look(s, x[0], x[1], x[2]); ino != 0 || e != api.ErrNone {
			t.Errorf("%v: %d, %d", x, ino, e)
		}
	}
	for _, id := range []int{1, 3, 4, 5, 6} {
		for _, ino := range []int{1, 2, 8, 9, 10, 2047} {
			if modelOf(s, id).kind(ino) != 1 {
				continue
			}
			for _, n := range append([]int{0, wide, wide + 1, wide + 2, 2 * wide, 2*wide + 30, -wide + 1, -wide + 3, most}, far...) {
				if at, e := Look(s, id, ino, n); at != 0 || e != api.ErrNone {
					t.Errorf("%d, %d, %d: %d, %d", id, ino, n, at, e)
				}
			}
		}
	}
}

// P19.1: ErrKind, and 0, if it is no directory: a file, an inode without a head, or with another one, inode 0, numbers beyond, or no such volume; whatever the name.
func TestLookKind(t *testing.T) {
	s := some(t)
	names := append([]int{0, 1, 2, 3, 5, 27, wide - 1, wide, most}, far...)
	for _, x := range [][2]int{{1, 0}, {1, 3}, {1, 4}, {1, 5}, {1, 6}, {1, 2048}, {1, -1}, {2, 0}, {2, 1}, {2, 2}, {3, 0}, {3, 3}, {3, 4}, {3, 5}, {3, 6}, {3, 7}, {3, 8}, {4, 1}, {5, 3}, {6, 3}, {6, 13}, {6, 2048}, {0, 1}, {7, 1}, {-1, 1}, {most, 1}} {
		for _, n := range names {
			if ino, e := Look(s, x[0], x[1], n); ino != 0 || e != api.ErrKind {
				t.Errorf("%v, %d: %d, %d", x, n, ino, e)
			}
		}
	}
	for _, f := range far {
		for _, n := range names {
			if ino, e := Look(s, f, 1, n); ino != 0 || e != api.ErrKind {
				t.Errorf("of the volume %d, %d: %d, %d", f, n, ino, e)
			}
			if ino, e := Look(s, 1, f, n); ino != 0 || e != api.ErrKind {
				t.Errorf("of the inode %d, %d: %d, %d", f, n, ino, e)
			}
		}
	}
}

// P19.2: what a path leads to: inode 1, if it has no names; whatever its last entry tells.
func TestWalk(t *testing.T) {
	s := some(t)
	for _, x := range []struct {
		id   int
		path []int
		want int
		e    api.Errno
	}{
		{1, nil, 1, api.OK}, {1, []int{}, 1, api.OK}, {3, nil, 1, api.OK}, {5, nil, 1, api.OK}, {6, nil, 1, api.OK},
		{1, []int{1}, 2, api.OK}, {1, []int{3}, 3, api.OK}, {1, []int{26}, 2047, api.OK}, {1, []int{531440}, 6, api.OK}, {1, []int{1, 2}, 7, api.OK}, {1, []int{1, 30}, 8, api.OK}, {1, []int{1, 30, 1}, 9, api.OK}, {1, []int{1, 30, 2}, 12, api.OK}, {5, []int{1, 30, 2}, 12, api.OK},
		{1, []int{2}, 0, api.ErrNone}, {1, []int{0}, 0, api.ErrNone}, {1, []int{-1}, 0, api.ErrNone}, {1, []int{wide}, 0, api.ErrNone}, {1, []int{2, 1}, 0, api.ErrNone}, {1, []int{1, 1}, 0, api.ErrNone}, {1, []int{1, 1, 1}, 0, api.ErrNone}, {1, []int{26, 1}, 0, api.ErrNone}, {1, []int{1, 30, 1, 1}, 0, api.ErrNone},
		{6, []int{1, 30, 1, 1}, 13, api.OK}, {6, []int{3}, 0, api.ErrNone}, {6, []int{1, 30, 1, 1, 1}, 0, api.ErrKind},
		// Through a file: what stands there by that place is a cell, not an entry.
		{1, []int{3, 1}, 0, api.ErrKind}, {1, []int{3, 2}, 0, api.ErrKind}, {1, []int{3, 5}, 0, api.ErrKind}, {1, []int{3, 0}, 0, api.ErrKind}, {1, []int{3, 1, 1}, 0, api.ErrKind}, {1, []int{1, 2, 9}, 0, api.ErrKind},
		// To what an entry tells, and through it: 0, 2048, most, inodes without a head, or with another one.
		{3, []int{1}, 0, api.OK}, {3, []int{1, 1}, 0, api.ErrKind}, {3, []int{1, 5}, 0, api.ErrKind}, {3, []int{2}, 2048, api.OK}, {3, []int{2, 1}, 0, api.ErrKind}, {3, []int{6}, most, api.OK}, {3, []int{6, 1}, 0, api.ErrKind},
		{3, []int{4}, 4, api.OK}, {3, []int{4, 1}, 0, api.ErrKind}, {3, []int{5}, 5, api.OK}, {3, []int{5, 1}, 0, api.ErrKind}, {3, []int{7}, 7, api.OK}, {3, []int{7, 1}, 0, api.ErrKind}, {3, []int{wide - 1}, 6, api.OK}, {3, []int{wide - 1, 1}, 0, api.ErrKind},
		// By places that are no names' numbers, and where directories tell themselves, and one another.
		{3, []int{27}, 2, api.OK}, {3, []int{27, 54}, 3, api.OK}, {3, []int{27, 531441}, 6, api.OK}, {3, []int{3}, 1, api.OK}, {3, []int{3, 3, 3, 27, 1, 2, 1}, 2, api.OK}, {3, []int{3, 3, 8}, 0, api.ErrNone},
		// Where there is no directory 1: whatever the path.
		{0, nil, 0, api.ErrKind}, {0, []int{1}, 0, api.ErrKind}, {2, nil, 0, api.ErrKind}, {2, []int{1}, 0, api.ErrKind}, {2, []int{0, 1}, 0, api.ErrKind}, {4, nil, 0, api.ErrKind}, {4, []int{1}, 0, api.ErrKind}, {4, []int{1, 1}, 0, api.ErrKind}, {7, nil, 0, api.ErrKind}, {7, []int{1, 30}, 0, api.ErrKind}, {-1, nil, 0, api.ErrKind},
	} {
		if ino, e := Walk(s, x.id, x.path); ino != x.want || e != x.e {
			t.Errorf("%d, %v: %d, %d", x.id, x.path, ino, e)
		}
		holdsWalk(t, s, modelOf(s, x.id), x.id, x.path)
	}
	for _, n := range far {
		if ino, e := Walk(s, n, nil); ino != 0 || e != api.ErrKind {
			t.Errorf("in the volume %d: %d, %d", n, ino, e)
		}
		if ino, e := Walk(s, 1, []int{n}); ino != 0 || e != api.ErrNone {
			t.Errorf("by %d: %d, %d", n, ino, e)
		}
	}
	if ino, e := Walk(api.State{Next: 1}, 1, nil); ino != 0 || e != api.ErrKind {
		t.Errorf("of no volume at all: %d, %d", ino, e)
	}
	// Without inode 0 there may be paths, too; without inode 1's head there are none.
	l := lone(t, row{1, 0, 1}, row{1, 1, 2})
	if ino, e := Walk(l, 1, []int{1}); ino != 2 || e != api.OK {
		t.Errorf("without inode 0: %d, %d", ino, e)
	}
	if ino, e := Walk(without(t, l, 1, 1, 0), 1, []int{1}); ino != 0 || e != api.ErrKind {
		t.Errorf("without a head: %d, %d", ino, e)
	}
}

// P19.2: paths of 20 names, and of more, and where a directory tells itself, of very many.
func TestWalkFar(t *testing.T) {
	for _, kind := range []int{1, 2} {
		s := lone(t, chain(30, kind)...)
		m := modelOf(s, 1)
		for many := range 33 {
			path := slices.Repeat([]int{1}, many)
			holdsWalk(t, s, m, 1, path)
			ino, e := Walk(s, 1, path)
			if many <= 30 && (ino != many+1 || e != api.OK) || many == 31 && kind == 1 && e != api.ErrNone || many > 30 && (ino != 0 || e == api.OK) || many == 31 && kind == 2 && e != api.ErrKind {
				t.Errorf("%d names: %d, %d", many, ino, e)
			}
		}
	}
	s := lone(t, row{1, 0, 1}, row{1, 1, 2}, row{2, 0, 1}, row{2, 1, 2}, row{2, 2, 1}, row{2, 3, 3}, row{3, 0, 2})
	for _, many := range []int{1, 2, 19, 20, 21, 22, 100, 1 << 16, 1 << 17} {
		path := slices.Repeat([]int{1}, many)
		if ino, e := Walk(s, 1, path); ino != 2 || e != api.OK {
			t.Errorf("itself, %d: %d, %d", many, ino, e)
		}
		if ino, n, e := Parent(s, 1, append(path, 9)); ino != 2 || n != 9 || e != api.OK {
			t.Errorf("itself, %d: %d, %d, %d", many, ino, n, e)
		}
		if ino, e := Walk(s, 1, slices.Repeat([]int{1, 2}, many)); ino != 1 || e != api.OK {
			t.Errorf("one another, %d: %d, %d", many, ino, e)
		}
		if ino, e := Walk(s, 1, append(path, 3)); ino != 3 || e != api.OK {
			t.Errorf("behind it, %d: %d, %d", many, ino, e)
		}
		if ino, e := Walk(s, 1, append(path, 3, 1)); ino != 0 || e != api.ErrKind {
			t.Errorf("behind it, %d: %d, %d", many, ino, e)
		}
	}
}

// P19.2: the directory that all but the last name lead to, and that name, whether it is there or not, and whatever it is.
func TestParent(t *testing.T) {
	s := some(t)
	for _, x := range []struct {
		id      int
		path    []int
		want, n int
		e       api.Errno
	}{
		{1, []int{1}, 1, 1, api.OK}, {1, []int{3}, 1, 3, api.OK}, {1, []int{2}, 1, 2, api.OK}, {1, []int{531440}, 1, 531440, api.OK}, {1, []int{0}, 1, 0, api.OK}, {1, []int{-5}, 1, -5, api.OK}, {1, []int{27}, 1, 27, api.OK}, {1, []int{math.MaxInt}, 1, math.MaxInt, api.OK},
		{1, []int{1, 2}, 2, 2, api.OK}, {1, []int{1, 1}, 2, 1, api.OK}, {1, []int{1, 30, 2}, 8, 2, api.OK}, {1, []int{1, 30, 7}, 8, 7, api.OK}, {1, []int{26, 4}, 2047, 4, api.OK}, {1, []int{1, 30, 1, 1}, 9, 1, api.OK}, {6, []int{1, 30, 1, 1}, 9, 1, api.OK},
		{1, nil, 0, 0, api.ErrArg}, {1, []int{}, 0, 0, api.ErrArg}, {2, nil, 0, 0, api.ErrArg}, {4, nil, 0, 0, api.ErrArg}, {0, nil, 0, 0, api.ErrArg}, {7, []int{}, 0, 0, api.ErrArg}, {-1, nil, 0, 0, api.ErrArg},
		// To a file ahead of its last name, and through one.
		{1, []int{3, 1}, 0, 0, api.ErrKind}, {1, []int{3, 2}, 0, 0, api.ErrKind}, {1, []int{1, 2, 9}, 0, 0, api.ErrKind}, {1, []int{3, 1, 1}, 0, 0, api.ErrKind}, {1, []int{1, 2, 9, 1, 1}, 0, 0, api.ErrKind},
		// Through what isn't there.
		{1, []int{2, 1}, 0, 0, api.ErrNone}, {1, []int{1, 1, 1}, 0, 0, api.ErrNone}, {1, []int{1, 30, 3, 1}, 0, 0, api.ErrNone}, {1, []int{0, 1}, 0, 0, api.ErrNone}, {1, []int{2, 3, 1}, 0, 0, api.ErrNone},
		{3, []int{1, 7}, 0, 0, api.ErrKind}, {3, []int{2, 7}, 0, 0, api.ErrKind}, {3, []int{4, 1}, 0, 0, api.ErrKind}, {3, []int{5, 1}, 0, 0, api.ErrKind}, {3, []int{6, 1}, 0, 0, api.ErrKind}, {3, []int{7, 1}, 0, 0, api.ErrKind}, {3, []int{3, 9}, 1, 9, api.OK}, {3, []int{27, 9}, 2, 9, api.OK},
		{2, []int{1}, 0, 0, api.ErrKind}, {4, []int{1}, 0, 0, api.ErrKind}, {4, []int{1, 1}, 0, 0, api.ErrKind}, {0, []int{1}, 0, 0, api.ErrKind}, {7, []int{1, 2}, 0, 0, api.ErrKind}, {most, []int{5}, 0, 0, api.ErrKind},
	} {
		if ino, n, e := Parent(s, x.id, x.path); ino != x.want || n != x.n || e != x.e {
			t.Errorf("%d, %v: %d, %d, %d", x.id, x.path, ino, n, e)
		}
		holdsWalk(t, s, modelOf(s, x.id), x.id, x.path)
	}
	for _, n := range far {
		if ino, m, e := Parent(s, n, []int{1}); ino != 0 || m != 0 || e != api.ErrKind {
			t.Errorf("in the volume %d: %d, %d, %d", n, ino, m, e)
		}
		if ino, m, e := Parent(s, 1, []int{n}); ino != 1 || m != n || e != api.OK {
			t.Errorf("of %d: %d, %d, %d", n, ino, m, e)
		}
	}
	// Of 21 names, and of 22.
	l := lone(t, chain(30, 1)...)
	for many := 19; many < 31; many++ {
		if ino, n, e := Parent(l, 1, append(slices.Repeat([]int{1}, many), 5)); ino != many+1 || n != 5 || e != api.OK {
			t.Errorf("%d names: %d, %d, %d", many+1, ino, n, e)
		}
	}
}

// P19.3: Tree of a volume that is set up, and no more: nothing, and it is whole.
func TestTreeEmpty(t *testing.T) {
	s, e := inode.Setup(bare(t, 60, 2), 2)
	if e != api.OK {
		t.Fatal(e)
	}
	tells(t, "set up", s, 2)
	if Whole(s, 1) || Whole(s, 0) || Whole(s, 3) {
		t.Error("others are whole, too")
	}
	// What isn't told by an entry isn't seen.
	s, _, _ = inode.Make(s, 2, 1)
	s, _, _ = inode.Make(s, 2, 2)
	s, e = inode.Set(s, 2, 3, 1, 5)
	if e != api.OK {
		t.Fatal(e)
	}
	tells(t, "with inodes", s, 2)
	tells(t, "of a directory 1 alone", lone(t, row{1, 0, 1}), 1)
}

// P19.3: by hand: a directory, a file, directories within directories; each directory's entries in order of their numbers, what is in a directory right behind it.
func TestTree(t *testing.T) {
	tells(t, "a directory", lone(t, row{0, 0, 3}, row{1, 0, 1}, row{1, 1, 2}, row{2, 0, 1}), 1, api.Entry{Path: "/a", Kind: 1})
	tells(t, "a file", lone(t, row{0, 0, 3}, row{1, 0, 1}, row{1, 1, 2}, row{2, 0, 2}), 1, api.Entry{Path: "/a", Kind: 2})
	tells(t, "a file with cells", lone(t, row{0, 0, 3}, row{1, 0, 1}, row{1, 1, 2}, row{2, 0, 2}, row{2, 1, 0}, row{2, 2, 5}, row{2, 9, most}, row{2, wide - 2, 8}, row{2, wide - 1, 7}), 1,
		api.Entry{Path: "/a", Kind: 2, C: []api.Item{{K: 0, V: 0}, {K: 1, V: 5}, {K: 8, V: most}, {K: wide - 3, V: 8}, {K: wide - 2, V: 7}}})
	all := []api.Entry{
		{Path: "/a", Kind: 1}, {Path: "/a/b", Kind: 2, C: []api.Item{{K: 8, V: 3}}}, {Path: "/a/ac", Kind: 1}, {Path: "/a/ac/a", Kind: 1}, {Path: "/a/ac/b", Kind: 2, C: []api.Item{{K: wide - 2, V: 1}}}, {Path: "/a/am", Kind: 1},
		{Path: "/c", Kind: 2, C: []api.Item{{K: 0, V: 11}, {K: 4, V: 0}, {K: wide - 2, V: most}}}, {Path: "/z", Kind: 1}, {Path: "/aa", Kind: 2}, {Path: "/zzzz", Kind: 2, C: []api.Item{{K: 6, V: 70}}},
	}
	s := some(t)
	tells(t, "some", s, 1, all...)
	tells(t, "its snapshot", s, 5, all...)
	changed := slices.Concat(all[:4], []api.Entry{{Path: "/a/ac/a/a", Kind: 2, C: []api.Item{{K: 0, V: 5}}}}, all[4:6], all[7:])
	tells(t, "a snapshot with entries of its own", s, 6, changed...)
	for _, id := range []int{0, 2, 3, 4, 7, -1, most} {
		if Whole(s, id) || len(Tree(s, id)) != 0 {
			t.Errorf("%d: %v", id, Tree(s, id))
		}
	}
	for _, id := range far {
		if Whole(s, id) || len(Tree(s, id)) != 0 {
			t.Errorf("%d: %v", id, Tree(s, id))
		}
	}
	// Numbers of inodes say nothing of the order; nor do those of letters: b is ahead of aa.
	tells(t, "inodes that fall", lone(t, row{0, 0, 9}, row{1, 0, 1}, row{1, 2, 8}, row{1, 28, 7}, row{1, 27*27 + 28, 6}, row{8, 0, 1}, row{7, 0, 1}, row{6, 0, 2}, row{8, 26, 5}, row{8, 1, 4}, row{7, 1, 3}, row{3, 0, 2}, row{4, 0, 1}, row{5, 0, 2}, row{5, 1, 2}), 1,
		api.Entry{Path: "/b", Kind: 1}, api.Entry{Path: "/b/a", Kind: 1}, api.Entry{Path: "/b/z", Kind: 2, C: []api.Item{{K: 0, V: 2}}}, api.Entry{Path: "/aa", Kind: 1}, api.Entry{Path: "/aa/a", Kind: 2}, api.Entry{Path: "/aaa", Kind: 2})
}

// P19.3: paths of 20 names are told, to a directory and to a file; where one has 21 the volume isn't whole.
func TestTreeDeep(t *testing.T) {
	for _, kind := range []int{1, 2} {
		for many := range 30 {
			if many == 0 {
				continue
			}
			s := lone(t, chain(many, kind)...)
			if is := holdsTree(t, s, 1); is != (many <= 20) {
				t.Errorf("%d names, of the kind %d: %t", many, kind, is)
			}
			if many > 20 {
				continue
			}
			var want []api.Entry
			for k := 1; k <= many; k++ {
				want = append(want, api.Entry{Path: strings.Repeat("/a", k), Kind: 1})
			}
			want[many-1].Kind = kind
			tells(t, "a chain", s, 1, want...)
		}
	}
	// Of 20 names of 4 letters; and where the one of 21 is neither the first nor the last, and an entry of a directory with others.
	l := chain(20, 1)
	for i := range l {
		if l[i].x == 1 {
			l[i].x = 531440
		}
	}
	if l := Tree(lone(t, l...), 1); len(l) != 20 || l[19].Path != strings.Repeat("/zzzz", 20) {
		t.Errorf("%v", l)
	}
	l = append(chain(20, 1), row{1, 2, 40}, row{40, 0, 2}, row{19, 2, 41}, row{41, 0, 1}, row{20, 2, 42}, row{42, 0, 2}, row{43, 0, 2}, row{44, 0, 1})
	s := lone(t, l...)
	if !holdsTree(t, s, 1) || len(Tree(s, 1)) != 23 {
		t.Errorf("%v", Tree(s, 1))
	}
	for _, x := range []row{{21, 1, 43}, {41, 1, 43}, {21, 5, 44}, {41, 5, 44}} {
		if is := holdsTree(t, filled(t, s, 1, x), 1); is != (x.ino == 41) {
			t.Errorf("%v: %t", x, is)
		}
	}
	if holdsTree(t, filled(t, s, 1, row{41, 1, 44}, row{44, 1, 43}), 1) {
		t.Error("21 names, in the last directory of all")
	}
}

// P19.3: a file of many items, and directories of many entries.
func TestTreeMany(t *testing.T) {
	s := filled(t, bare(t, 1900, 1), 1, row{0, 0, 900}, row{1, 0, 1}, row{1, 5, 3}, row{1, 6, 2}, row{1, 7, 4}, row{2, 0, 2}, row{3, 0, 1}, row{4, 0, 1})
	want := []api.Entry{{Path: "/e", Kind: 1}}
	var cells []api.Item
	for k := range 600 {
		s = filled(t, s, 1, row{2, 1 + 7*k, k * k})
		cells = append(cells, api.Item{K: 7 * k, V: k * k})
	}
	for n, ino := 1, 10; ino < 310; n++ {
		if text(n) != "" {
			s = filled(t, s, 1, row{3, n, ino}, row{ino, 0, 1 + ino%2})
			want = append(want, api.Entry{Path: "/e/" + text(n), Kind: 1 + ino%2})
			ino++
		}
	}
	want = append(want, api.Entry{Path: "/f", Kind: 2, C: cells}, api.Entry{Path: "/g", Kind: 1})
	tells(t, "many", s, 1, want...)
	if holdsTree(t, filled(t, s, 1, row{4, 1, 200}), 1) {
		t.Error("one of many is told by another directory, too")
	}
}

// base is a volume that is whole: /a (2) with /a/b (3, a file), /a/c (4) with /a/c/z (5, a file); /d (6, a file). 7 and 8 are told by none: a directory and a file.
var base = []row{{0, 0, 9}, {1, 0, 1}, {1, 1, 2}, {1, 4, 6}, {2, 0, 1}, {2, 2, 3}, {2, 3, 4}, {3, 0, 2}, {3, 1, 7}, {4, 0, 1}, {4, 26, 5}, {5, 0, 2}, {6, 0, 2}, {6, 3, 9}, {7, 0, 1}, {8, 0, 2}}

// P19.3: what is amiss, a thing at a time, in the first directory, and in those below; and what isn't.
func TestWhole(t *testing.T) {
	s := lone(t, base...)
	if !holdsTree(t, s, 1) {
		t.Fatal("the base isn't whole")
	}
	for _, x := range []struct {
		what string
		l    []row
		is   bool
	}{
		{"one told more", []row{{1, 2, 8}}, true}, {"a directory told more", []row{{4, 2, 7}}, true}, {"both, one in the other", []row{{4, 2, 7}, {7, 2, 8}}, true},
		{"cells", []row{{6, 1, 2}, {6, 2, 2048}, {6, 27, 1}, {6, wide - 1, 6}, {6, 531441, 0}, {3, 2, 2}}, true},
		{"the greatest name", []row{{1, 531440, 8}}, true}, {"the greatest inode", []row{{4, 1, 2047}, {2047, 0, 2}}, true}, {"no next number", []row{{0, 0, 0}}, true},
		{"a scrapped one that isn't told", []row{{0, 1, 8}}, true}, {"and others", []row{{0, 1, 8}, {0, 2, 7}, {0, 3, 100}, {0, 4, 2048}, {0, 5, most}, {0, 6, 0}, {0, wide - 1, 8}}, true},
		{"inode 1 is a file", []row{{1, 0, 2}}, false}, {"inode 1 is neither", []row{{1, 0, 3}}, false}, {"inode 1's head is 0", []row{{1, 0, 0}}, false},
		{"inode 1 is scrapped", []row{{0, 1, 1}}, false}, {"inode 1, the last of three", []row{{0, 1, 8}, {0, 2, 7}, {0, wide - 1, 1}}, false},
		{"the file is scrapped", []row{{0, 1, 6}}, false}, {"the first one", []row{{0, 3, 2}}, false}, {"the deepest one", []row{{0, wide - 1, 5}}, false}, {"behind others", []row{{0, 1, 8}, {0, 2, 7}, {0, 3, 4}, {0, 4, 100}}, false}, {"twice", []row{{0, 1, 3}, {0, 2, 3}}, false},
	} {
		if is := holdsTree(t, filled(t, s, 1, x.l...), 1); is != x.is {
			t.Errorf("%s: %t", x.what, is)
		}
	}
	for _, ino := range []int{1, 2, 3, 4, 5, 6} {
		if holdsTree(t, without(t, s, 1, ino, 0), 1) {
			t.Errorf("without the head of %d", ino)
		}
	}
	for _, ino := range []int{0, 7, 8} {
		if !holdsTree(t, without(t, s, 1, ino, 0), 1) {
			t.Errorf("without the head of %d, that no path leads to", ino)
		}
	}
}

// P19.3: each of an entry's places, and each number that it may tell, in each directory that paths lead to: what is no name's number, what is told already, and what is neither isn't whole. In one that no path leads to, and in a file, all may stand.
func TestWholeEntries(t *testing.T) {
	s := lone(t, base...)
	for _, over := range []struct {
		ino int
		led bool
	}{{1, true}, {2, true}, {4, true}, {3, false}, {6, false}, {7, false}, {8, false}, {100, false}} {
		for _, n := range []int{1, 5, 25, 26, 27, 28, 53, 54, 55, 728, 729, 730, 755, 756, 757, 19682, 19683, 19684, 20439, 20440, 531413, 531414, 531439, 531440, 531441, 531442, 551880, 551881, wide - 2, wide - 1} {
			if _, had := modelOf(s, 1)[over.ino][n]; had {
				continue
			}
			want := !over.led || text(n) != ""
			if is := holdsTree(t, filled(t, s, 1, row{over.ino, n, 8}), 1); is != want {
				t.Errorf("the place %d in %d: %t", n, over.ino, is)
			}
		}
		for _, ino := range []int{0, 1, 2, 3, 4, 5, 6, 7, 8, 9, 2047, 2048, 2049, 4096, wide, wide + 8, most} {
			want := !over.led || ino == 7 || ino == 8
			if is := holdsTree(t, filled(t, s, 1, row{over.ino, 20, ino}), 1); is != want {
				t.Errorf("%d, told in %d: %t", ino, over.ino, is)
			}
		}
		for _, head := range []int{0, 1, 2, 3, 4, 2048, most} {
			want := !over.led || head == 1 || head == 2
			if is := holdsTree(t, filled(t, s, 1, row{over.ino, 20, 50}, row{50, 0, head}), 1); is != want {
				t.Errorf("the head %d, told in %d: %t", head, over.ino, is)
			}
		}
		// An inode that has cells, but no head.
		if is := holdsTree(t, filled(t, s, 1, row{over.ino, 20, 50}, row{50, 1, 1}, row{49, 0, 2}, row{51, 0, 2}), 1); is != !over.led {
			t.Errorf("without a head, told in %d: %t", over.ino, is)
		}
	}
}

// P19.3: each inode that may be scrapped, of those that paths lead to, and of others; behind a sweep of its items it is whole again only where none tells it.
func TestWholeScrapped(t *testing.T) {
	s := lone(t, base...)
	for ino := range 2100 {
		want := ino == 0 || ino > 6
		got, e := inode.Scrap(s, 1, ino)
		if is := Whole(got, 1); e != api.OK || is != want {
			t.Errorf("%d: %d, %t", ino, e, is)
		}
		if ino < 10 {
			holdsTree(t, got, 1)
		}
	}
	got, _ := inode.Scrap(s, 1, 8)
	for range 2 {
		tree := Tree(s, 1)
		got.H = heap.Settle(got.H)
		got, _, _ = inode.Sweep(got, 1)
		tells(t, "behind a sweep", got, 1, tree...)
	}
}

// P19.3: two entries of one directory, of two beside one another, and of two of which one is in the other, that tell one inode; a directory that tells itself, and one that tells one above it.
func TestWholeTwice(t *testing.T) {
	ahead := []row{{0, 0, 20}, {1, 0, 1}, {1, 2, 2}, {1, 3, 3}, {2, 0, 1}, {2, 2, 4}, {3, 0, 1}, {3, 2, 5}, {4, 0, 1}, {5, 0, 1}, {6, 0, 2}, {7, 0, 1}, {7, 1, 8}, {8, 0, 2}}
	s := lone(t, ahead...)
	if !holdsTree(t, s, 1) {
		t.Fatal("it isn't whole ahead")
	}
	for _, ino := range []int{6, 7} {
		for _, a := range []int{1, 2, 3, 4, 5} {
			one := filled(t, s, 1, row{a, 1, ino})
			if !holdsTree(t, one, 1) {
				t.Errorf("%d, told once: in %d", ino, a)
			}
			for _, b := range []int{1, 2, 3, 4, 5} {
				for _, n := range []int{9, 531440} {
					if holdsTree(t, filled(t, one, 1, row{b, n, ino}), 1) {
						t.Errorf("%d, told twice: in %d and %d", ino, a, b)
					}
				}
			}
		}
	}
	for _, a := range []int{1, 2, 3, 4, 5} {
		for _, b := range []int{1, 2, 3, 4, 5} {
			if holdsTree(t, filled(t, s, 1, row{a, 9, b}), 1) {
				t.Errorf("%d tells %d", a, b)
			}
		}
	}
	// A ring that no path leads to is none of its business.
	if !holdsTree(t, filled(t, s, 1, row{7, 2, 7}, row{7, 3, 1}, row{7, 4, 2}, row{7, 27, 6}, row{7, 5, 0}, row{7, 6, 9}), 1) {
		t.Error("a ring beside it")
	}
}

// drawn is a state of some volumes of few inodes; of most drawn items, of which many make a whole.
func drawn(t *testing.T, next func(n int) int) api.State {
	s := bare(t, 300, 3)
	for id := 1; id <= 3; id++ {
		s = filled(t, s, id, row{0, 0, 12}, row{1, 0, 1})
		dirs := []int{1}
		for ino := 2; ino < 3+next(9); ino++ {
			over, n := dirs[next(len(dirs))], 1+next(30)
			if _, had := modelOf(s, id)[over][n]; had {
				continue
			}
			kind := 1 + next(2)
			s = filled(t, s, id, row{over, n, ino}, row{ino, 0, kind})
			if kind == 1 {
				dirs = append(dirs, ino)
			} else {
				for range next(4) {
					s = filled(t, s, id, row{ino, 1 + next(wide-1), next(most)})
				}
			}
		}
		for range next(4) {
			r := row{next(12), next(30), next(12)}
			switch next(6) {
			case 0:
				r.x = 531430 + next(20)
			case 1:
				r.val = 2040 + next(10)
			case 2:
				r.ino = 2047 - next(2)
			case 3:
				r.x = 0
			}
			s = filled(t, s, id, r)
		}
	}
	s, _, _ = state.Snap(s, 1+next(3))
	return s
}

// P19.1 to P19.4: drawn volumes: each call against what was worked out apart, some of them whole, some not.
func TestDrawn(t *testing.T) {
	next := picker(3)
	counts := [2]int{}
	for range 150 {
		s := drawn(t, next)
		was := deep(s)
		for id := range 6 {
			m := modelOf(s, id)
			at := 0
			if holdsTree(t, s, id) {
				at = 1
			}
			counts[at]++
			for ino := -1; ino < 14; ino++ {
				for _, n := range []int{0, 1, 2, next(30), next(30), next(wide), wide} {
					holdsLook(t, s, m, id, ino, n)
				}
			}
			for range 40 {
				holdsWalk(t, s, m, id, path(m, next))
			}
		}
		if !same(s, was) || !mount.Right(s) {
			t.Fatal("what was handed in is changed")
		}
	}
	if counts[0] < 300 || counts[1] < 200 {
		t.Errorf("%v are whole, or aren't", counts)
	}
}

// path is a drawn path, which mostly goes by entries that are there.
func path(m model, next func(n int) int) []int {
	var l []int
	ino := 1
	for range next(6) {
		var names []int
		for n := range m[ino] {
			names = append(names, n)
		}
		slices.Sort(names)
		n := next(30)
		if len(names) > 0 && next(6) > 0 {
			n = names[next(len(names))]
		}
		l = append(l, n)
		ino = m[ino][n]
	}
	return l
}

// R1: states that aren't right: no call panics, and all end, where roots are no cells, where nodes tell one another in rings, and where items are none that there can be.
func TestSpoilt(t *testing.T) {
	next := picker(4)
	for i := range 300 {
		s := deep(some(t))
		if i%2 == 1 {
			s = deep(drawn(t, next))
		}
		for range 1 + next(5) {
			c := &s.H.C[next(len(s.H.C)/4)]
			n := []int{-1, 0, 1, next(60), next(400), 1 << 31, math.MinInt, math.MaxInt}[next(8)]
			switch next(5) {
			case 0:
				s.V[next(len(s.V))].Root = n
			case 1:
				c.Ref = n
			case 2:
				c.N.Leaf = !c.N.Leaf
			default:
				if len(c.N.It) > 0 {
					c.N.It[next(len(c.N.It))] = []api.Item{{K: n, V: next(60)}, {K: next(1 << 22), V: n}}[next(2)]
				}
			}
		}
		was := deep(s)
		for id := range 7 {
			Whole(s, id)
			Tree(s, id)
			for ino := range 12 {
				Kind(s, id, ino)
				Look(s, id, ino, 1+next(30))
			}
			for range 5 {
				Walk(s, id, []int{1 + next(3), 1 + next(30), 1 + next(3)})
				Parent(s, id, []int{1 + next(3), 1 + next(30), 1 + next(3)})
			}
		}
		if !same(s, was) {
			t.Fatal("what was handed in is changed")
		}
	}
}

// R3: what is handed in isn't written into, not behind its end, either; what comes out shares no memory with it, nor with what comes out else.
func TestShares(t *testing.T) {
	s := some(t)
	s.V = append(make([]api.Vol, 0, 9), s.V...)
	s.L = make([]complex128, 0, 9)
	s.H.C = append(make([]api.Cell, 0, 500), s.H.C...)
	was := deep(s)
	was.V, was.L = slices.Clone(s.V[:9]), slices.Clone(s.L[:9])
	want := Tree(s, 1)
	for i := range want {
		want[i].C = slices.Clone(want[i].C)
	}
	whole := []int{1, 30, 2, 7, 8, 9}
	path := slices.Clone(whole)
	for many := range len(path) + 1 {
		Walk(s, 1, path[:many])
		Parent(s, 1, path[:many])
	}
	if !slices.Equal(path, whole) {
		t.Errorf("the path is %v now", path)
	}
	one, other := Tree(s, 1), Tree(s, 1)
	for i := range one {
		l := one[i].C
		for j := range l[:cap(l)] {
			l[:cap(l)][j] = api.Item{K: -5, V: -5}
		}
		if again := Tree(s, 1); !alike(again, want) || !alike(other, want) {
			t.Fatalf("the cells of %s are those of others", one[i].Path)
		}
		for j := range one {
			if j > i && !slices.Equal(one[j].C, want[j].C) {
				t.Fatalf("the cells of %s are those of %s, too", one[i].Path, one[j].Path)
			}
		}
		one[i] = api.Entry{}
	}
	for i := range one[:cap(one)] {
		one[:cap(one)][i] = api.Entry{Path: "/"}
	}
	got := s
	got.V, got.L = s.V[:9], s.L[:9]
	if !same(got, was) || !alike(other, want) || !alike(Tree(s, 1), want) {
		t.Error("what is handed out shares memory with what was handed in")
	}
}

// R4: the same arguments, the same answers, whatever was asked between.
func TestSameAnswers(t *testing.T) {
	s := some(t)
	want := Tree(s, 6)
	for range 3 {
		for id := range 8 {
			if is := Whole(s, id); is != (id == 1 || id == 5 || id == 6) {
				t.Errorf("Whole of %d: %t", id, is)
			}
			Tree(s, id)
			Walk(s, id, []int{1, 30, 1})
			Parent(s, id, nil)
		}
		if l := Tree(s, 6); !alike(l, want) {
			t.Errorf("%v, not %v", l, want)
		}
		if ino, e := Walk(s, 6, []int{1, 30, 1, 1}); ino != 13 || e != api.OK {
			t.Errorf("%d, %d", ino, e)
		}
		if k := Kind(s, 6, 13); k != 2 {
			t.Errorf("%d", k)
		}
	}
}
