package inode

import (
	"math"
	"slices"
	"testing"

	"assart/api"
	"assart/heap"
	"assart/mount"
	"assart/state"
)

const (
	most = 1<<31 - 1
	wide = 1 << 20
)

// far are numbers that are no volume's, no inode's, no place and no value.
var far = []int{math.MinInt, math.MinInt + 1, -1 << 44, -1 << 43, -1 << 32, -1 << 31, -1 << 20, -2, -1, 1 << 31, 1<<31 + 1, 1 << 32, 1<<32 + 1, 1 << 43, 1<<44 - 1, 1 << 44, 1<<44 + 1, 1<<44 + 2, math.MaxInt - 1, math.MaxInt}

// picker is a row of numbers that look as if they were drawn; the same for the same seed.
func picker(seed int) func(n int) int {
	x := uint64(seed)*2654435761 + 12345
	return func(n int) int {
		x = x*6364136223846793005 + 1442695040888963407
		return int(x>>33) % n
	}
}

// deep is a state's copy, in memory of its own.
func deep(s api.State) api.State {
	s.H.C = slices.Clone(s.H.C)
	for p := range s.H.C {
		s.H.C[p].N.It = slices.Clone(s.H.C[p].N.It)
	}
	s.V, s.L = slices.Clone(s.V), slices.Clone(s.L)
	return s
}

// same: are two states the same, all of them?
func same(a, b api.State) bool {
	cells := slices.EqualFunc(a.H.C, b.H.C, func(x, y api.Cell) bool {
		return x.Ref == y.Ref && x.Pin == y.Pin && x.N.Leaf == y.N.Leaf && slices.Equal(x.N.It, y.N.It)
	})
	return cells && a.H.Keep == b.H.Keep && slices.Equal(a.V, b.V) && slices.Equal(a.L, b.L) && a.Next == b.Next && a.Gen == b.Gen
}

// settled is a state's copy in which nothing waits for a commit.
func settled(s api.State) api.State {
	s = deep(s)
	s.H = heap.Settle(s.H)
	return s
}

// free is how many cells are free.
func free(s api.State) int {
	n := 0
	for _, c := range s.H.C {
		if c.Ref == 0 && !c.Pin {
			n++
		}
	}
	return n
}

// roomFor is a state's copy with just so much room for what isn't deep.
func roomFor(s api.State, n int) api.State {
	s = deep(s)
	s.H.Keep = free(s) - n
	return s
}

// freeJust is a state's copy of which just so many cells are free; all others wait. None are kept.
func freeJust(s api.State, n int) api.State {
	s = deep(s)
	s.H.Keep = 0
	for p, c := range s.H.C {
		if c.Ref == 0 {
			s.H.C[p].Pin = n <= 0
			n--
		}
	}
	return s
}

// its are all items of a volume, by their keys; what a volume's are, chapter 12 says.
func its(t *testing.T, s api.State, id int) []api.Item {
	t.Helper()
	l, e := state.Items(s, id)
	if e != api.OK && e != api.ErrNone {
		t.Fatalf("items of %d: %d", id, e)
	}
	return l
}

// place is where a volume stands, or -1.
func place(s api.State, id int) int {
	return slices.IndexFunc(s.V, func(v api.Vol) bool { return v.Id == id })
}

// of are a volume's items of an inode from a place on, their places for K; worked out from all its items.
func of(t *testing.T, s api.State, id, ino, from int) []api.Item {
	t.Helper()
	var l []api.Item
	for _, x := range its(t, s, id) {
		if x.K/wide == ino && x.K%wide >= from {
			l = append(l, api.Item{K: x.K % wide, V: x.V})
		}
	}
	return l
}

// get is Get, worked out apart from it, by the words alone.
func get(t *testing.T, s api.State, id, ino, x int) (int, api.Errno) {
	t.Helper()
	for _, y := range of(t, s, id, ino, 0) {
		if y.K == x {
			return y.V, api.OK
		}
	}
	return 0, api.ErrNone
}

// set is Set, likewise; what a volume's Put is, chapter 12 says.
func set(s api.State, id, ino, x, val int) (api.State, api.Errno) {
	return state.Put(deep(s), id, wide*ino+x, val, false)
}

// setup is Setup, likewise.
func setup(t *testing.T, s api.State, id int) (api.State, api.Errno) {
	t.Helper()
	if _, e := get(t, s, id, 0, 0); e == api.OK {
		return s, api.ErrHad
	}
	one, e := set(s, id, 0, 0, 2)
	if e != api.OK {
		return s, e
	}
	two, e := set(one, id, 1, 0, 1)
	if e != api.OK {
		return s, e
	}
	return two, api.OK
}

// made is Make, likewise.
func made(t *testing.T, s api.State, id, head int) (api.State, int, api.Errno) {
	t.Helper()
	n, e := get(t, s, id, 0, 0)
	if e != api.OK {
		return s, 0, api.ErrNone
	}
	if n >= 2048 {
		return s, 0, api.ErrFull
	}
	one, e := set(s, id, 0, 0, n+1)
	if e != api.OK {
		return s, 0, e
	}
	two, e := set(one, id, n, 0, head)
	if e != api.OK {
		return s, 0, e
	}
	return two, n, api.OK
}

// scrapped is Scrap, likewise.
func scrapped(t *testing.T, s api.State, id, ino int) (api.State, api.Errno) {
	t.Helper()
	if place(s, id) < 0 {
		return s, api.ErrNone
	}
	at := 1
	for _, x := range of(t, s, id, 0, 1) {
		at = x.K + 1
	}
	if at == 1<<20 {
		return s, api.ErrFull
	}
	got, e := state.Put(deep(s), id, at, ino, true)
	if e != api.OK {
		return s, e
	}
	return got, api.OK
}

// waste is Waste, likewise.
func waste(t *testing.T, s api.State, id int) []int {
	t.Helper()
	var l []int
	for _, x := range of(t, s, id, 0, 1) {
		l = append(l, x.V)
	}
	return l
}

// swept is Sweep, likewise; what a volume's Del is, chapter 12 says.
func swept(t *testing.T, s api.State, id int) (api.State, bool, api.Errno) {
	t.Helper()
	l := of(t, s, id, 0, 1)
	if len(l) == 0 {
		return s, false, api.OK
	}
	key := l[0].K
	if own := of(t, s, id, l[0].V, 0); len(own) > 0 {
		key = wide*l[0].V + own[0].K
	}
	got, e := state.Del(deep(s), id, key)
	if e != api.OK {
		return s, false, e
	}
	return got, true, api.OK
}

// wants holds a state and an error that came out against what was worked out apart; that both it and what was handed in are right yet; and that no other volume's items are changed.
func wants(t *testing.T, what string, s, was, got api.State, e api.Errno, want api.State, f api.Errno, id int) {
	t.Helper()
	if !same(s, was) {
		t.Fatalf("%s: what was handed in is changed", what)
	}
	if e != f || !same(got, want) {
		t.Fatalf("%s of %v: %d, %v; not %d, %v", what, s, e, got, f, want)
	}
	if !mount.Right(was) || !mount.Right(got) {
		t.Fatalf("%s of %v: %v isn't right", what, s, got)
	}
	if len(got.V) != len(s.V) {
		t.Fatalf("%s: %d volumes, not %d", what, len(got.V), len(s.V))
	}
	for _, v := range s.V {
		if v.Id != id && !slices.Equal(its(t, got, v.Id), its(t, s, v.Id)) {
			t.Fatalf("%s: volume %d is changed, too", what, v.Id)
		}
	}
}

func holdsSet(t *testing.T, s api.State, id, ino, x, val int) (api.State, api.Errno) {
	t.Helper()
	was := deep(s)
	want, f := set(s, id, ino, x, val)
	got, e := Set(s, id, ino, x, val)
	wants(t, "Set", s, was, got, e, want, f, id)
	return got, e
}

func holdsSetup(t *testing.T, s api.State, id int) (api.State, api.Errno) {
	t.Helper()
	was := deep(s)
	want, f := setup(t, s, id)
	got, e := Setup(s, id)
	wants(t, "Setup", s, was, got, e, want, f, id)
	return got, e
}

func holdsMake(t *testing.T, s api.State, id, head int) (api.State, int, api.Errno) {
	t.Helper()
	was := deep(s)
	want, m, f := made(t, s, id, head)
	got, n, e := Make(s, id, head)
	wants(t, "Make", s, was, got, e, want, f, id)
	if n != m {
		t.Fatalf("Make in %d of %v: %d, not %d", id, s, n, m)
	}
	return got, n, e
}

func holdsScrap(t *testing.T, s api.State, id, ino int) (api.State, api.Errno) {
	t.Helper()
	was := deep(s)
	want, f := scrapped(t, s, id, ino)
	got, e := Scrap(s, id, ino)
	wants(t, "Scrap", s, was, got, e, want, f, id)
	return got, e
}

func holdsSweep(t *testing.T, s api.State, id int) (api.State, bool, api.Errno) {
	t.Helper()
	was := deep(s)
	want, is, f := swept(t, s, id)
	got, yes, e := Sweep(s, id)
	wants(t, "Sweep", s, was, got, e, want, f, id)
	if yes != is {
		t.Fatalf("Sweep of %d of %v: %t, not %t", id, s, yes, is)
	}
	return got, yes, e
}

// looks holds all that is asked of a volume against its items.
func looks(t *testing.T, s api.State, id int) {
	t.Helper()
	was := deep(s)
	for _, ino := range []int{-1, 0, 1, 2, 3, 4, 5, 6, 7, 9, 100, 2046, 2047, 2048, 4095} {
		for _, x := range []int{0, 1, 2, 3, 5, 8, 99, wide - 2, wide - 1} {
			want, f := get(t, s, id, ino, x)
			if v, e := Get(s, id, ino, x); v != want || e != f {
				t.Fatalf("Get(%d, %d, %d) of %v: %d, %d; not %d, %d", id, ino, x, s, v, e, want, f)
			}
		}
		want, f := of(t, s, id, ino, 1), api.OK
		if place(s, id) < 0 {
			f = api.ErrNone
		}
		if l, e := Rows(s, id, ino); e != f || !slices.Equal(l, want) {
			t.Fatalf("Rows(%d, %d) of %v: %v, %d; not %v, %d", id, ino, s, l, e, want, f)
		}
	}
	if l := Waste(s, id); !slices.Equal(l, waste(t, s, id)) {
		t.Fatalf("Waste(%d) of %v: %v", id, s, l)
	}
	if !same(s, was) {
		t.Fatalf("looked at %d: what was handed in is changed", id)
	}
}

// row is an item of an inode.
type row struct{ ino, x, val int }

// filled is a volume's state with items of inodes, put one by one, as chapter 12 says; nothing waits.
func filled(t *testing.T, s api.State, id int, l ...row) api.State {
	t.Helper()
	for _, r := range l {
		var e api.Errno
		if s, e = set(s, id, r.ino, r.x, r.val); e != api.OK {
			t.Fatalf("%v: %d", r, e)
		}
		s = settled(s)
	}
	return s
}

// bare is a state of volumes from 1 on, as many as said, without items.
func bare(t *testing.T, cells, keep, vols int) api.State {
	t.Helper()
	s, e := state.New(cells, keep)
	for range vols {
		if e == api.OK {
			s, _, e = state.Create(s)
		}
	}
	if e != api.OK {
		t.Fatal(e)
	}
	return s
}

// some is a state of five volumes: 1 and 4 are one tree, of many inodes; 2 has no item; 3 isn't set up, but has some; 5 was a snapshot of 1, and has items of its own.
func some(t *testing.T) api.State {
	s := bare(t, 200, 9, 3)
	s = filled(t, s, 1, row{0, 0, 7}, row{1, 0, 1}, row{1, 1, 2}, row{1, 5, 3}, row{2, 0, 2}, row{3, 0, 2}, row{3, 1, 0}, row{3, 2, 10}, row{3, 8, most}, row{4, 0, 1}, row{5, 0, 2}, row{5, wide - 2, 6}, row{5, wide - 1, 5}, row{6, 0, 2}, row{6, 99, 1}, row{2046, 1, 1}, row{2047, 0, 2}, row{2047, 3, 4}, row{2047, wide - 1, 9})
	s, _, e := state.Snap(s, 1)
	s, _, f := state.Snap(s, 1)
	if e != api.OK || f != api.OK {
		t.Fatal(e, f)
	}
	s = filled(t, s, 5, row{0, 1, 5}, row{0, 2, 3}, row{0, 9, 3}, row{0, wide - 2, 6}, row{7, 0, 2}, row{3, 3, 1})
	return filled(t, s, 3, row{3, 0, 2}, row{3, 1, 8}, row{0, 3, 3})
}

// The chapter's example, and more by hand: behind Setup the first inode that is made is 2.
func TestExample(t *testing.T) {
	s, e := Setup(bare(t, 20, 0, 1), 1)
	if want := []api.Item{{K: 0, V: 2}, {K: 1 << 20, V: 1}}; e != api.OK || !slices.Equal(its(t, s, 1), want) {
		t.Fatal(e, its(t, s, 1))
	}
	s, n, e := Make(s, 1, 2)
	if want := []api.Item{{K: 0, V: 3}, {K: 1 << 20, V: 1}, {K: 2 << 20, V: 2}}; n != 2 || e != api.OK || !slices.Equal(its(t, s, 1), want) {
		t.Fatal(n, e, its(t, s, 1))
	}
	s, e = Set(s, 1, 2, 7, 70)
	s, f := Scrap(s, 1, 2)
	if want := []api.Item{{K: 0, V: 3}, {K: 1, V: 2}, {K: 1 << 20, V: 1}, {K: 2 << 20, V: 2}, {K: 2<<20 + 7, V: 70}}; e != api.OK || f != api.OK || !slices.Equal(its(t, s, 1), want) {
		t.Fatal(e, f, its(t, s, 1))
	}
	for i, want := range [][]api.Item{
		{{K: 0, V: 3}, {K: 1, V: 2}, {K: 1 << 20, V: 1}, {K: 2<<20 + 7, V: 70}},
		{{K: 0, V: 3}, {K: 1, V: 2}, {K: 1 << 20, V: 1}},
		{{K: 0, V: 3}, {K: 1 << 20, V: 1}},
	} {
		var is bool
		if s, is, e = Sweep(settled(s), 1); !is || e != api.OK || !slices.Equal(its(t, s, 1), want) {
			t.Fatal(i, is, e, its(t, s, 1))
		}
	}
	if x, is, e := Sweep(s, 1); is || e != api.OK || !same(x, s) {
		t.Fatal(is, e)
	}
	if _, n, e := Make(settled(s), 1, 2); n != 3 || e != api.OK {
		t.Fatal(n, e)
	}
}

// P18.1: the key of the least and the greatest inode and place, and of some between.
func TestKey(t *testing.T) {
	for _, x := range [][3]int{
		{0, 0, 0}, {0, 1, 1}, {0, 7, 7}, {0, 1048575, 1048575}, {1, 0, 1048576}, {1, 1, 1048577}, {2, 5, 2097157},
		{2046, 1048575, 2146435071}, {2047, 0, 2146435072}, {2047, 1048575, 2147483647},
	} {
		if got := Key(x[0], x[1]); got != x[2] {
			t.Errorf("%v: %d", x, got)
		}
	}
	// Each has one of its own, and they rise by inodes, then by places.
	last := -1
	for ino := range 2048 {
		for _, x := range []int{0, 1, 2, 1000, wide - 2, wide - 1} {
			if k := Key(ino, x); k <= last || k/wide != ino || k%wide != x {
				t.Fatalf("%d, %d: %d behind %d", ino, x, k, last)
			} else {
				last = k
			}
		}
	}
}

// P18.1, R5: of numbers beyond both the sum and the product are the same ones, and go round at 2^64.
func TestKeyBeyond(t *testing.T) {
	for _, x := range [][3]int{
		{0, -1, -1}, {-1, 0, -1048576}, {-1, -1, -1048577}, {-2, 5, -2097147}, {2048, 0, 1 << 31}, {2047, 1048576, 1 << 31}, {2048, -1, most},
		{0, 1048576, 1048576}, {1, 1048576, 2097152}, {1 << 31, 0, 1 << 51}, {0, math.MaxInt, math.MaxInt}, {0, math.MinInt, math.MinInt},
		{1 << 43, 0, math.MinInt}, {1 << 44, 0, 0}, {1 << 44, 5, 5}, {1<<44 + 1, 5, 1048581}, {math.MinInt, 3, 3}, {math.MaxInt, 0, -1048576}, {1, math.MaxInt, math.MinInt + 1048575},
	} {
		if got := Key(x[0], x[1]); got != x[2] {
			t.Errorf("%v: %d", x, got)
		}
	}
}

// P18.1: Get tells an item: the head, others, the last one; not another inode's, and none that isn't there.
func TestGet(t *testing.T) {
	s := some(t)
	for _, x := range []struct{ id, ino, x, val int }{
		{1, 0, 0, 7}, {1, 1, 0, 1}, {1, 1, 5, 3}, {1, 3, 1, 0}, {1, 3, 8, most}, {1, 5, wide - 1, 5}, {1, 2047, 0, 2}, {1, 2047, wide - 1, 9}, {1, 2046, 1, 1},
		{4, 0, 0, 7}, {4, 2047, wide - 1, 9}, {5, 0, 1, 5}, {5, 0, wide - 2, 6}, {5, 3, 3, 1}, {5, 2047, wide - 1, 9}, {3, 3, 1, 8}, {3, 0, 3, 3},
	} {
		if v, e := Get(s, x.id, x.ino, x.x); v != x.val || e != api.OK {
			t.Errorf("%v: %d, %d", x, v, e)
		}
	}
	for _, x := range [][3]int{
		{1, 0, 1}, {1, 1, 2}, {1, 1, 6}, {1, 2, 1}, {1, 3, 3}, {1, 3, 9}, {1, 7, 0}, {1, 2045, 0}, {1, 2046, 0}, {1, 2046, wide - 1}, {1, 2047, wide - 2},
		{2, 0, 0}, {2, 1, 0}, {2, 2047, wide - 1}, {3, 0, 0}, {3, 1, 0}, {3, 3, 2}, {4, 7, 0}, {4, 0, 1}, {5, 0, 3}, {0, 0, 0}, {6, 0, 0}, {6, 3, 1},
	} {
		if v, e := Get(s, x[0], x[1], x[2]); v != 0 || e != api.ErrNone {
			t.Errorf("%v: %d, %d", x, v, e)
		}
	}
	for _, n := range far {
		if v, e := Get(s, n, 0, 0); v != 0 || e != api.ErrNone {
			t.Errorf("of the volume %d: %d, %d", n, v, e)
		}
	}
	for id := range 7 {
		looks(t, s, id)
	}
	if v, e := Get(api.State{Next: 1}, 1, 0, 0); v != 0 || e != api.ErrNone {
		t.Errorf("of no volume at all: %d, %d", v, e)
	}
}

// P18.1: Rows are an inode's items but for its head, by hand; of inodes that have none, or the head alone, none.
func TestRows(t *testing.T) {
	s := some(t)
	for _, x := range []struct {
		id, ino int
		want    []api.Item
	}{
		{1, 0, nil}, {1, 1, []api.Item{{K: 1, V: 2}, {K: 5, V: 3}}}, {1, 2, nil}, {1, 3, []api.Item{{K: 1, V: 0}, {K: 2, V: 10}, {K: 8, V: most}}}, {1, 4, nil},
		{1, 5, []api.Item{{K: wide - 2, V: 6}, {K: wide - 1, V: 5}}}, {1, 6, []api.Item{{K: 99, V: 1}}}, {1, 7, nil}, {1, 2045, nil},
		{1, 2046, []api.Item{{K: 1, V: 1}}}, {1, 2047, []api.Item{{K: 3, V: 4}, {K: wide - 1, V: 9}}},
		{2, 0, nil}, {2, 1, nil}, {2, 2047, nil}, {3, 0, []api.Item{{K: 3, V: 3}}}, {3, 1, nil}, {3, 3, []api.Item{{K: 1, V: 8}}},
		{4, 0, nil}, {4, 3, []api.Item{{K: 1, V: 0}, {K: 2, V: 10}, {K: 8, V: most}}}, {4, 2047, []api.Item{{K: 3, V: 4}, {K: wide - 1, V: 9}}},
		{5, 0, []api.Item{{K: 1, V: 5}, {K: 2, V: 3}, {K: 9, V: 3}, {K: wide - 2, V: 6}}}, {5, 7, nil}, {5, 3, []api.Item{{K: 1, V: 0}, {K: 2, V: 10}, {K: 3, V: 1}, {K: 8, V: most}}},
	} {
		if l, e := Rows(s, x.id, x.ino); e != api.OK || !slices.Equal(l, x.want) {
			t.Errorf("%d, %d: %v, %d", x.id, x.ino, l, e)
		}
	}
}

// P18.1: ErrNone, and none, if there is no such volume. R5: no number beyond is an inode's, wherever its key goes round.
func TestRowsNone(t *testing.T) {
	s := some(t)
	for _, id := range append([]int{0, 6, 7, 20, most}, far...) {
		for _, ino := range []int{0, 1, 3, 2047, 2048, -1} {
			if l, e := Rows(s, id, ino); e != api.ErrNone || len(l) != 0 {
				t.Errorf("%d, %d: %v, %d", id, ino, l, e)
			}
		}
	}
	for id := 1; id <= 5; id++ {
		for _, ino := range append([]int{2048, 2049, 4096, most}, far...) {
			if l, e := Rows(s, id, ino); e != api.OK || len(l) != 0 {
				t.Errorf("%d, %d: %v, %d", id, ino, l, e)
			}
		}
	}
}

// P18.1: Rows of an inode with many items, between two others with many, each with its place.
func TestRowsMany(t *testing.T) {
	s := bare(t, 900, 9, 1)
	var want []api.Item
	for ino := 3; ino < 6; ino++ {
		s = filled(t, s, 1, row{ino, 0, ino})
		for k := range 300 {
			s = filled(t, s, 1, row{ino, 1 + 7*k, 1000*ino + k})
			if ino == 4 {
				want = append(want, api.Item{K: 1 + 7*k, V: 4000 + k})
			}
		}
	}
	l, e := Rows(s, 1, 4)
	if e != api.OK || !slices.Equal(l, want) {
		t.Fatalf("%v, %d", l, e)
	}
	looks(t, s, 1)
}

// P18.1: Set is Put of the key, of what is there and of what isn't; by hand, and held against it.
func TestSet(t *testing.T) {
	for _, r := range []row{{0, 0, 5}, {0, 1, 2}, {1, 0, 2}, {3, 8, 0}, {3, 9, 1}, {2, wide - 1, most}, {2047, wide - 1, 8}, {2047, 0, 0}, {2045, 3, 3}, {0, wide - 1, 4}} {
		for id := 1; id <= 5; id++ {
			got, e := holdsSet(t, some(t), id, r.ino, r.x, r.val)
			if v, f := Get(got, id, r.ino, r.x); e != api.OK || f != api.OK || v != r.val {
				t.Errorf("%d, %v: %d, %d, %d", id, r, e, v, f)
			}
			looks(t, got, id)
		}
	}
	for _, x := range [][5]int{
		{1, 0, 0, -1, 1}, {1, 0, 0, 1 << 31, 1}, {1, 2048, 0, 1, 1}, {1, 2047, wide, 1, 1}, {1, 0, -1, 1, 1}, {1, -1, 0, 1, 1}, {2, 5, 0, -1, 1},
		{0, 0, 0, 1, 4}, {6, 0, 0, 1, 4}, {6, 0, 0, -1, 4}, {-1, 2048, 0, 1, 4}, {most, 0, 0, 1, 4},
	} {
		s := some(t)
		if got, e := holdsSet(t, s, x[0], x[1], x[2], x[3]); e != api.Errno(x[4]) || !same(got, s) {
			t.Errorf("%v: %d", x, e)
		}
	}
	for _, n := range far {
		if _, e := holdsSet(t, some(t), n, 3, 1, 1); e != api.ErrNone {
			t.Errorf("of the volume %d: %d", n, e)
		}
		if _, e := holdsSet(t, some(t), 1, 3, 1, n); e != api.ErrArg {
			t.Errorf("to %d: %d", n, e)
		}
	}
}

// P18.1: Set where there is just room for it, where there is one cell too few, and with cells kept: it isn't deep.
func TestSetRoom(t *testing.T) {
	for id, need := range map[int]int{1: 7, 2: 1, 3: 3, 5: 7} {
		s := some(t)
		if _, e := holdsSet(t, roomFor(s, need), id, 3, 1, 77); e != api.OK {
			t.Errorf("%d: just room: %d", id, e)
		}
		if got, e := holdsSet(t, roomFor(s, need-1), id, 3, 1, 77); e != api.ErrFull || !same(got, roomFor(s, need-1)) {
			t.Errorf("%d: one too few: %d", id, e)
		}
		if _, e := holdsSet(t, freeJust(s, need), id, 3, 1, 77); e != api.OK {
			t.Errorf("%d: just so many free: %d", id, e)
		}
		if _, e := holdsSet(t, freeJust(s, need-1), id, 3, 1, 77); e != api.ErrFull {
			t.Errorf("%d: one too few free: %d", id, e)
		}
	}
}

// P18.2: the head of inode 0 to 2, then inode 1's to 1; of a volume without items, and of one that has items of other inodes.
func TestSetup(t *testing.T) {
	got, e := holdsSetup(t, some(t), 2)
	if want := []api.Item{{K: 0, V: 2}, {K: 1 << 20, V: 1}}; e != api.OK || !slices.Equal(its(t, got, 2), want) {
		t.Errorf("%d, %v", e, its(t, got, 2))
	}
	// Inode 0's other items are no head; nor is inode 3's.
	got, e = holdsSetup(t, some(t), 3)
	if want := []api.Item{{K: 0, V: 2}, {K: 3, V: 3}, {K: 1 << 20, V: 1}, {K: 3 << 20, V: 2}, {K: 3<<20 + 1, V: 8}}; e != api.OK || !slices.Equal(its(t, got, 3), want) {
		t.Errorf("%d, %v", e, its(t, got, 3))
	}
	// What inode 1's head told is told no more.
	got, e = holdsSetup(t, filled(t, bare(t, 20, 0, 1), 1, row{1, 0, 77}, row{1, 1, 5}), 1)
	if want := []api.Item{{K: 0, V: 2}, {K: 1 << 20, V: 1}, {K: 1<<20 + 1, V: 5}}; e != api.OK || !slices.Equal(its(t, got, 1), want) {
		t.Errorf("%d, %v", e, its(t, got, 1))
	}
}

// P18.2: ErrHad, and the state, if inode 0 has a head, whatever it tells, and where there is no room; else the errors of Set.
func TestSetupNot(t *testing.T) {
	s := some(t)
	for _, id := range []int{1, 4, 5} {
		for _, x := range []api.State{s, roomFor(s, 0), freeJust(s, 0)} {
			if got, e := holdsSetup(t, x, id); e != api.ErrHad || !same(got, x) {
				t.Errorf("%d: %d", id, e)
			}
		}
	}
	for _, v := range []int{0, 1, 2, 2048, most} {
		s := filled(t, bare(t, 20, 0, 1), 1, row{0, 0, v})
		if got, e := holdsSetup(t, s, 1); e != api.ErrHad || !same(got, s) {
			t.Errorf("of the head %d: %d", v, e)
		}
	}
	for _, id := range append([]int{0, 6, 20, most}, far...) {
		if got, e := holdsSetup(t, s, id); e != api.ErrNone || !same(got, s) {
			t.Errorf("%d: %d", id, e)
		}
	}
	again, e := holdsSetup(t, s, 2)
	if got, f := holdsSetup(t, again, 2); e != api.OK || f != api.ErrHad || !same(got, again) {
		t.Errorf("twice: %d, %d", e, f)
	}
}

// P18.2: Setup where there is room for nothing, for its first Set alone, and for both: of a volume without a tree 1 cell, and then 3.
func TestSetupRoom(t *testing.T) {
	s := bare(t, 20, 0, 2)
	for n := range 8 {
		for _, x := range []api.State{roomFor(s, n), freeJust(s, n)} {
			got, e := holdsSetup(t, x, 1)
			if n < 4 && (e != api.ErrFull || !same(got, x)) || n >= 4 && e != api.OK {
				t.Errorf("%d: %d", n, e)
			}
		}
	}
	if _, e := set(roomFor(s, 1), 1, 0, 0, 2); e != api.OK {
		t.Errorf("the first one alone: %d", e)
	}
}

// P18.2: a new inode of the number that inode 0's head tells, that is one more then, and its head; by hand.
func TestMake(t *testing.T) {
	s := filled(t, bare(t, 60, 3, 2), 2, row{0, 0, 2}, row{1, 0, 1})
	for i, head := range []int{2, 1, 0, most, 77} {
		got, n, e := holdsMake(t, s, 2, head)
		if n != i+2 || e != api.OK {
			t.Fatalf("the %dth: %d, %d", i, n, e)
		}
		v, e := Get(got, 2, n, 0)
		next, f := Get(got, 2, 0, 0)
		if v != head || next != n+1 || e != api.OK || f != api.OK {
			t.Errorf("the %dth: %d, %d, %d, %d", i, v, e, next, f)
		}
		s = settled(got)
	}
	// The number is what the head tells, whatever there is of that inode.
	got, n, e := holdsMake(t, some(t), 5, 9)
	if v, _ := Get(got, 5, 7, 0); n != 7 || e != api.OK || v != 9 {
		t.Errorf("%d, %d, %d", n, e, v)
	}
	s = filled(t, bare(t, 60, 3, 1), 1, row{0, 0, 3}, row{3, 0, 4}, row{3, 6, 5})
	got, n, e = holdsMake(t, s, 1, 8)
	if want := []api.Item{{K: 0, V: 4}, {K: 3 << 20, V: 8}, {K: 3<<20 + 6, V: 5}}; n != 3 || e != api.OK || !slices.Equal(its(t, got, 1), want) {
		t.Errorf("%d, %d, %v", n, e, its(t, got, 1))
	}
}

// P18.2: where the head tells 2047 that is the last number; where it tells 0, or 1, that.
func TestMakeEdges(t *testing.T) {
	for _, x := range []struct {
		head, n int
		e       api.Errno
		want    []api.Item
	}{
		{0, 0, api.OK, []api.Item{{K: 0, V: 9}}},
		{1, 1, api.OK, []api.Item{{K: 0, V: 2}, {K: 1 << 20, V: 9}}},
		{2046, 2046, api.OK, []api.Item{{K: 0, V: 2047}, {K: 2046 << 20, V: 9}}},
		{2047, 2047, api.OK, []api.Item{{K: 0, V: 2048}, {K: 2047 << 20, V: 9}}},
		{2048, 0, api.ErrFull, []api.Item{{K: 0, V: 2048}}},
		{2049, 0, api.ErrFull, []api.Item{{K: 0, V: 2049}}},
		{most, 0, api.ErrFull, []api.Item{{K: 0, V: most}}},
	} {
		s := filled(t, bare(t, 60, 3, 1), 1, row{0, 0, x.head})
		got, n, e := holdsMake(t, s, 1, 9)
		if n != x.n || e != x.e || !slices.Equal(its(t, got, 1), x.want) {
			t.Errorf("%d: %d, %d, %v", x.head, n, e, its(t, got, 1))
		}
		if x.e != api.OK && !same(got, s) {
			t.Errorf("%d: another state", x.head)
		}
		// Full comes ahead of what Set refuses.
		if got, n, e := holdsMake(t, s, 1, -1); n != 0 || x.e == api.ErrFull && e != x.e || x.e == api.OK && e != api.ErrArg || !same(got, s) {
			t.Errorf("%d, of the head -1: %d, %d", x.head, n, e)
		}
	}
}

// P18.2: ErrNone, the state and 0, if inode 0 has no head; the first error of Set otherwise.
func TestMakeNot(t *testing.T) {
	s := some(t)
	for _, id := range append([]int{0, 2, 3, 6, most}, far...) {
		for _, head := range []int{1, -1, 1 << 31} {
			if got, n, e := holdsMake(t, s, id, head); n != 0 || e != api.ErrNone || !same(got, s) {
				t.Errorf("%d: %d, %d", id, n, e)
			}
		}
	}
	for _, head := range far {
		if got, n, e := holdsMake(t, s, 1, head); n != 0 || e != api.ErrArg || !same(got, s) {
			t.Errorf("of the head %d: %d, %d", head, n, e)
		}
		// The number is told first, so where there is no room for that, either, that is the first error.
		if got, n, e := holdsMake(t, roomFor(s, 0), 1, head); n != 0 || e != api.ErrFull || !same(got, roomFor(s, 0)) {
			t.Errorf("of the head %d, and no room: %d, %d", head, n, e)
		}
	}
}

// P18.2: Make where there is room for nothing, for its first Set alone, and for both: in a volume of one leaf, of which each Set needs 3, and the first takes 1.
func TestMakeRoom(t *testing.T) {
	s := filled(t, bare(t, 60, 3, 1), 1, row{0, 0, 2}, row{1, 0, 1})
	for n := range 8 {
		for _, x := range []api.State{roomFor(s, n), freeJust(s, n)} {
			got, k, e := holdsMake(t, x, 1, 2)
			if n < 4 && (k != 0 || e != api.ErrFull || !same(got, x)) || n >= 4 && (k != 2 || e != api.OK) {
				t.Errorf("%d: %d, %d", n, k, e)
			}
		}
	}
	if _, e := set(roomFor(s, 3), 1, 0, 0, 3); e != api.OK {
		t.Errorf("the first one alone: %d", e)
	}
}

// P18.2, P18.5: the numbers that one Make behind the other tells: each once, from 2 to 2047, with others given up between.
func TestMakeAll(t *testing.T) {
	s, e := Setup(bare(t, 2000, 50, 1), 1)
	for want := 2; want < 2048; want++ {
		var n int
		s.H = heap.Settle(s.H)
		if s, n, e = Make(s, 1, 2); n != want || e != api.OK {
			t.Fatalf("the %dth: %d, %d", want, n, e)
		}
		if want%100 == 0 {
			s.H = heap.Settle(s.H)
			s, e = Scrap(s, 1, n)
			s, _, _ = Sweep(s, 1)
			s, _, _ = Sweep(s, 1)
			if _, f := Get(s, 1, n, 0); e != api.OK || f != api.ErrNone {
				t.Fatalf("%d isn't gone: %d, %d", n, e, f)
			}
		}
	}
	s.H = heap.Settle(s.H)
	if got, n, e := holdsMake(t, s, 1, 2); n != 0 || e != api.ErrFull || !same(got, s) {
		t.Errorf("behind all: %d, %d", n, e)
	}
	if v, e := Get(s, 1, 2047, 0); v != 2 || e != api.OK {
		t.Errorf("the last one: %d, %d", v, e)
	}
}

// P18.3: what inode 0's items but for its head tell, in order of their places; an inode that is told twice is twice there.
func TestWaste(t *testing.T) {
	s := some(t)
	for id, want := range map[int][]int{0: nil, 1: nil, 2: nil, 3: {3}, 4: nil, 5: {5, 3, 3, 6}, 6: nil, -1: nil, most: nil} {
		if l := Waste(s, id); !slices.Equal(l, want) {
			t.Errorf("%d: %v", id, l)
		}
	}
	for _, id := range far {
		if l := Waste(s, id); len(l) != 0 {
			t.Errorf("%d: %v", id, l)
		}
	}
	s = filled(t, bare(t, 60, 3, 1), 1, row{0, wide - 1, 3}, row{0, 7, most}, row{0, 1, 0}, row{0, 8, 2048}, row{1, 1, 9})
	if l := Waste(s, 1); !slices.Equal(l, []int{0, most, 2048, 3}) {
		t.Errorf("%v", l)
	}
}

// P18.3: an item of inode 0 more, behind its last one, that tells the inode; at 1, if there is the head, or nothing.
func TestScrap(t *testing.T) {
	for _, x := range []struct{ id, at int }{{1, 1}, {2, 1}, {3, 4}, {4, 1}, {5, wide - 1}} {
		for _, ino := range []int{3, 0, 1, 7, 2047, 2048, 5000, most} {
			s := some(t)
			got, e := holdsScrap(t, s, x.id, ino)
			if v, f := Get(got, x.id, 0, x.at); v != ino || e != api.OK || f != api.OK {
				t.Errorf("%v, %d: %d, %d, %d", x, ino, v, e, f)
			}
			if want := append(waste(t, s, x.id), ino); !slices.Equal(Waste(got, x.id), want) {
				t.Errorf("%v, %d: %v", x, ino, Waste(got, x.id))
			}
			if len(its(t, got, x.id)) != len(its(t, s, x.id))+1 {
				t.Errorf("%v, %d: %v", x, ino, its(t, got, x.id))
			}
		}
	}
	// Again and again, and of the same one again.
	s := bare(t, 60, 3, 1)
	for i, ino := range []int{4, 4, 2, 9, 2, 4} {
		var e api.Errno
		if s, e = holdsScrap(t, settled(s), 1, ino); e != api.OK {
			t.Fatal(i, e)
		}
	}
	if want := []api.Item{{K: 1, V: 4}, {K: 2, V: 4}, {K: 3, V: 2}, {K: 4, V: 9}, {K: 5, V: 2}, {K: 6, V: 4}}; !slices.Equal(its(t, s, 1), want) {
		t.Error(its(t, s, 1))
	}
}

// P18.3: behind waste of which the first items are swept the place is behind the last one yet, and behind all 1 again.
func TestScrapBehindSweeps(t *testing.T) {
	s := filled(t, bare(t, 60, 3, 1), 1, row{0, 0, 9})
	for _, ino := range []int{5, 6, 7} {
		s, _ = holdsScrap(t, settled(s), 1, ino)
	}
	s, _, _ = holdsSweep(t, settled(s), 1)
	s, _, _ = holdsSweep(t, settled(s), 1)
	s, e := holdsScrap(t, settled(s), 1, 8)
	if want := []api.Item{{K: 0, V: 9}, {K: 3, V: 7}, {K: 4, V: 8}}; e != api.OK || !slices.Equal(its(t, s, 1), want) {
		t.Fatal(e, its(t, s, 1))
	}
	s, _, _ = holdsSweep(t, settled(s), 1)
	s, _, _ = holdsSweep(t, settled(s), 1)
	s, e = holdsScrap(t, settled(s), 1, 4)
	if want := []api.Item{{K: 0, V: 9}, {K: 1, V: 4}}; e != api.OK || !slices.Equal(its(t, s, 1), want) {
		t.Fatal(e, its(t, s, 1))
	}
}

// P18.3: ErrNone, if there is no such volume; else ErrFull, if the place is 2^20; else Put's error. The state is as it was.
func TestScrapNot(t *testing.T) {
	s := some(t)
	for _, id := range append([]int{0, 6, most}, far...) {
		for _, ino := range []int{1, -1, 1 << 31} {
			if got, e := holdsScrap(t, s, id, ino); e != api.ErrNone || !same(got, s) {
				t.Errorf("%d, %d: %d", id, ino, e)
			}
		}
	}
	for _, ino := range far {
		for id := 1; id <= 5; id++ {
			if got, e := holdsScrap(t, s, id, ino); e != api.ErrArg || !same(got, s) {
				t.Errorf("%d, %d: %d", id, ino, e)
			}
		}
	}
	last := filled(t, s, 1, row{0, wide - 1, 4})
	for _, ino := range []int{2, 0, 2048, most, -1, 1 << 31, math.MinInt} {
		for _, x := range []api.State{last, freeJust(last, 0)} {
			if got, e := holdsScrap(t, x, 1, ino); e != api.ErrFull || !same(got, x) {
				t.Errorf("behind the last place, %d: %d", ino, e)
			}
		}
		// That is so of no other volume.
		if _, e := holdsScrap(t, last, 4, ino); e == api.ErrFull {
			t.Errorf("another volume, %d: %d", ino, e)
		}
	}
	ahead := filled(t, s, 2, row{0, wide - 2, 4})
	got, e := holdsScrap(t, ahead, 2, 3)
	if v, _ := Get(got, 2, 0, wide-1); e != api.OK || v != 3 {
		t.Errorf("at the last place: %d, %d", e, v)
	}
}

// P18.3: Scrap is deep: where all free cells are kept it is done; where too few are free, kept or not, it isn't.
func TestScrapRoom(t *testing.T) {
	for id, need := range map[int]int{1: 7, 2: 1, 3: 3, 5: 7} {
		s := some(t)
		for _, n := range []int{need, need - 1, 0} {
			x := freeJust(s, n)
			x.H.Keep = len(x.H.C)
			got, e := holdsScrap(t, x, id, 3)
			if n == need && e != api.OK || n < need && (e != api.ErrFull || !same(got, x)) {
				t.Errorf("%d, %d free: %d", id, n, e)
			}
		}
	}
}

// P18.4: the first inode that is told is swept, its first item first, the head, too; then the item that tells it; by hand.
func TestSweep(t *testing.T) {
	s := some(t)
	l := its(t, s, 5)
	// Of the volume 5 the inodes 5, 3, 3, 6 are told, at the places 1, 2, 9 and 2^20 - 2.
	for i, key := range []int{
		5 << 20, 5<<20 + wide - 2, 5<<20 + wide - 1, 1,
		3 << 20, 3<<20 + 1, 3<<20 + 2, 3<<20 + 3, 3<<20 + 8, 2, 9,
		6 << 20, 6<<20 + 99, wide - 2,
	} {
		got, is, e := holdsSweep(t, s, 5)
		l = slices.DeleteFunc(l, func(x api.Item) bool { return x.K == key })
		if !is || e != api.OK || !slices.Equal(its(t, got, 5), l) {
			t.Fatalf("the %dth: %t, %d: %v, not %v", i, is, e, its(t, got, 5), l)
		}
		s = settled(got)
	}
	if got, is, e := holdsSweep(t, s, 5); is || e != api.OK || !same(got, s) {
		t.Errorf("behind all: %t, %d", is, e)
	}
	if want := []int{0, 1 << 20, 1<<20 + 1, 1<<20 + 5, 2 << 20, 4 << 20, 7 << 20, 2046<<20 + 1, 2047 << 20, 2047<<20 + 3, most}; !slices.EqualFunc(l, want, func(x api.Item, k int) bool { return x.K == k }) {
		t.Errorf("there are yet %v", l)
	}
}

// P18.4: of an inode of the head alone, of none, of 2048 and more, of one that is told twice, and of inode 0 itself.
func TestSweepEdges(t *testing.T) {
	for i, x := range []struct {
		l    []row
		keys []int // that are taken out, one by one
	}{
		{nil, nil},
		{[]row{{0, 0, 3}, {1, 0, 1}, {2, 0, 2}, {2, 5, 2}}, nil},
		{[]row{{0, 0, 3}, {0, 1, 2}, {2, 0, 2}}, []int{2 << 20, 1}},
		{[]row{{0, 0, 3}, {0, 1, 2}}, []int{1}},
		{[]row{{0, 1, 2}}, []int{1}},
		{[]row{{0, 8, 2}, {2, 8, 2}}, []int{2<<20 + 8, 8}},
		{[]row{{0, 0, 3}, {0, 7, 2048}, {2047, 0, 1}, {2047, wide - 1, 1}}, []int{7}},
		{[]row{{0, 0, 3}, {0, 7, 2049}, {0, 9, most}, {1, 0, 1}}, []int{7, 9}},
		{[]row{{0, 4, 2047}, {2047, 0, 1}, {2047, wide - 1, 1}, {2046, wide - 1, 1}}, []int{2047 << 20, most, 4}},
		{[]row{{0, 3, 2}, {0, 5, 2}, {2, 0, 2}}, []int{2 << 20, 3, 5}},
		{[]row{{0, 3, 4}, {0, 5, 2}, {0, 6, 4}, {2, 0, 2}, {4, 1, 2}}, []int{4<<20 + 1, 3, 2 << 20, 5, 6}},
		// Inode 0's own items are all gone: its head, what tells it, and all that is told behind it.
		{[]row{{0, 0, 3}, {0, 3, 0}, {0, 5, 2}, {2, 0, 2}}, []int{0, 3, 2 << 20, 5}},
		{[]row{{0, 3, 0}, {1, 0, 1}}, []int{3}},
		{[]row{{0, 3, 2}, {0, 5, 0}, {0, 9, 0}, {0, 0, 3}, {2, 1, 1}}, []int{2<<20 + 1, 3, 0, 5, 9}},
		{[]row{{0, 0, 9}, {0, 1, 1}, {1, 0, 1}, {1, 4, 5}, {2, 0, 2}}, []int{1 << 20, 1<<20 + 4, 1}},
		{[]row{{0, wide - 1, 1}, {1, 0, 1}, {1, wide - 1, 5}, {2, 0, 2}}, []int{1 << 20, 1<<20 + wide - 1, wide - 1}},
	} {
		s := filled(t, bare(t, 60, 3, 3), 2, x.l...)
		for j, key := range x.keys {
			want := slices.DeleteFunc(its(t, s, 2), func(y api.Item) bool { return y.K == key })
			got, is, e := holdsSweep(t, s, 2)
			if !is || e != api.OK || !slices.Equal(its(t, got, 2), want) {
				t.Fatalf("%d, the %dth: %t, %d: %v, not %v", i, j, is, e, its(t, got, 2), want)
			}
			s = settled(got)
		}
		if got, is, e := holdsSweep(t, s, 2); is || e != api.OK || !same(got, s) {
			t.Errorf("%d, behind all: %t, %d", i, is, e)
		}
	}
}

// P18.4: of the first volume and of the last one, which share their tree with others, that go on showing it.
func TestSweepShared(t *testing.T) {
	s := filled(t, bare(t, 90, 3, 1), 1, row{0, 0, 5}, row{0, 1, 2}, row{0, 2, 3}, row{1, 0, 1}, row{2, 0, 2}, row{2, 1, 7}, row{3, 0, 2}, row{4, 0, 2})
	was := its(t, s, 1)
	s, _, _ = state.Snap(s, 1)
	s, _, _ = state.Snap(s, 2)
	left := []api.Item{{K: 0, V: 5}, {K: 1 << 20, V: 1}, {K: 4 << 20, V: 2}}
	for _, id := range []int{1, 3} {
		for i := range 5 {
			got, is, e := holdsSweep(t, s, id)
			if !is || e != api.OK {
				t.Fatalf("%d, the %dth: %t, %d", id, i, is, e)
			}
			s = settled(got)
		}
		if got, is, e := holdsSweep(t, s, id); is || e != api.OK || !same(got, s) || !slices.Equal(its(t, s, id), left) {
			t.Errorf("%d: %t, %d: %v", id, is, e, its(t, s, id))
		}
		if !slices.Equal(its(t, s, 2), was) {
			t.Errorf("%d: the snapshot has %v", id, its(t, s, 2))
		}
	}
}

// P18.4: the state, and no, if there is no waste, or no such volume, where there is no room, too.
func TestSweepNone(t *testing.T) {
	s := some(t)
	for _, id := range append([]int{0, 1, 2, 4, 6, most}, far...) {
		for _, x := range []api.State{s, freeJust(s, 0)} {
			if got, is, e := holdsSweep(t, x, id); is || e != api.OK || !same(got, x) {
				t.Errorf("%d: %t, %d", id, is, e)
			}
		}
	}
}

// P18.4: an error of Del: the state, no, and it; kept cells will do, as many as the tree is high.
func TestSweepRoom(t *testing.T) {
	for id, high := range map[int]int{3: 1, 5: 3} {
		s := some(t)
		for n := range high + 2 {
			x := freeJust(s, n)
			x.H.Keep = len(x.H.C)
			got, is, e := holdsSweep(t, x, id)
			if n < high && (is || e != api.ErrFull || !same(got, x)) || n >= high && (!is || e != api.OK) {
				t.Errorf("%d, %d free: %t, %d", id, n, is, e)
			}
		}
	}
}

// items of scrapped inodes, and of inode 0 that tell them, of a volume: how many there are. Inode 0's own are counted once.
func wasted(t *testing.T, s api.State, id int) int {
	t.Helper()
	seen, n := map[int]int{}, 0
	for _, ino := range waste(t, s, id) {
		n++
		if seen[ino]++; seen[ino] == 1 && ino != 0 {
			n += len(of(t, s, id, ino, 0))
		} else if seen[ino] == 1 {
			n += len(of(t, s, id, 0, 0)) - len(of(t, s, id, 0, 1))
		}
	}
	return n
}

// drawn is a state of some volumes with drawn items, few inodes, and waste among them.
func drawn(t *testing.T, next func(n int) int) api.State {
	s := bare(t, 400, 20, 2)
	for range next(60) {
		r := row{next(8), next(5), next(9)}
		switch next(6) {
		case 0:
			r.x = wide - 1 - next(2)
		case 1:
			r.ino = 2047 - next(2)
		case 2:
			r.val = 2040 + next(12)
		}
		if r.ino == 0 && r.x == wide-1 && next(3) > 0 {
			r.x = 1
		}
		id := 1 + next(len(s.V))
		s = filled(t, s, id, r)
		if len(s.V) < 4 && next(20) == 0 {
			s, _, _ = state.Snap(s, id)
		}
	}
	return s
}

// P18.5: as often as there are items of scrapped inodes, and of inode 0 that tell them, Sweep is done, and takes out just these.
func TestSweepAll(t *testing.T) {
	next := picker(1)
	for i := range 60 {
		s := drawn(t, next)
		for _, v := range s.V {
			told := waste(t, s, v.Id)
			kept := slices.DeleteFunc(its(t, s, v.Id), func(x api.Item) bool {
				return x.K > 0 && x.K < wide || slices.Contains(told, x.K/wide)
			})
			for n := wasted(t, s, v.Id); n > 0; n-- {
				got, is, e := holdsSweep(t, s, v.Id)
				if !is || e != api.OK || wasted(t, got, v.Id) != n-1 {
					t.Fatalf("%d, %d: %d yet: %t, %d", i, v.Id, n, is, e)
				}
				s = settled(got)
			}
			if got, is, e := holdsSweep(t, s, v.Id); is || e != api.OK || !same(got, s) || !slices.Equal(its(t, s, v.Id), kept) {
				t.Fatalf("%d, %d: behind all: %t, %d: %v, not %v", i, v.Id, is, e, its(t, s, v.Id), kept)
			}
		}
	}
}

// P18.1 to P18.5: drawn rows of calls, of volumes and snapshots, at little room, too, each held against what was worked out apart.
func TestDrawn(t *testing.T) {
	next := picker(2)
	for range 40 {
		s := drawn(t, next)
		for range 60 {
			id, ino := next(len(s.V)+2), next(9)
			if next(4) == 0 {
				ino = 2040 + next(12)
			}
			x := s
			switch next(8) {
			case 0:
				x = roomFor(s, next(12))
			case 1:
				x = freeJust(s, next(12))
			}
			switch next(6) {
			case 0:
				s, _ = holdsSet(t, x, id, ino, next(wide), next(most))
			case 1:
				s, _ = holdsSetup(t, x, id)
			case 2:
				s, _, _ = holdsMake(t, x, id, next(3)-next(2))
			case 3:
				s, _ = holdsScrap(t, x, id, ino)
			default:
				s, _, _ = holdsSweep(t, x, id)
			}
			s = settled(s)
			s.H.Keep = 20
			looks(t, s, id)
		}
	}
}

// R3: what is handed in isn't written into, not behind its end, either; what comes out shares nothing with it that a later call changes.
func TestShares(t *testing.T) {
	s := some(t)
	s.V = append(make([]api.Vol, 0, 9), s.V...)
	s.L = make([]complex128, 0, 9)
	s.H.C = append(make([]api.Cell, 0, 300), s.H.C...)
	was := deep(s)
	was.V, was.L = slices.Clone(s.V[:9]), slices.Clone(s.L[:9])
	calls := []func(s api.State) api.State{
		func(s api.State) api.State { s, _ = Set(s, 5, 3, 1, 7); return s },
		func(s api.State) api.State { s, _ = Set(s, 2, 3, 1, 7); return s },
		func(s api.State) api.State { s, _ = Setup(s, 2); return s },
		func(s api.State) api.State { s, _, _ = Make(s, 5, 2); return s },
		func(s api.State) api.State { s, _ = Scrap(s, 5, 2); return s },
		func(s api.State) api.State { s, _, _ = Sweep(s, 5); return s },
	}
	for i, call := range calls {
		one := call(s)
		first := deep(one)
		for _, other := range calls {
			other(s)
			other(one)
		}
		if !same(one, first) {
			t.Errorf("%d: what came out is changed by a later call", i)
		}
		whole := s
		whole.V, whole.L = s.V[:9], s.L[:9]
		if !same(whole, was) {
			t.Errorf("%d: what was handed in is changed", i)
		}
		if again := call(s); !same(again, one) {
			t.Errorf("%d: another answer to the same", i)
		}
	}
	for _, ino := range []int{0, 1, 3, 5, 2047} {
		l, _ := Rows(s, 5, ino)
		for i := range l {
			l[i] = api.Item{K: -5, V: -5}
		}
	}
	w := Waste(s, 5)
	for i := range w {
		w[i] = -5
	}
	whole := s
	whole.V, whole.L = s.V[:9], s.L[:9]
	if !same(whole, was) || !slices.Equal(Waste(s, 5), []int{5, 3, 3, 6}) {
		t.Error("what is handed out shares memory with what was handed in")
	}
}
