package commit

import (
	"math"
	"slices"
	"strings"
	"testing"

	"assart/api"
	"assart/disk"
	"assart/heap"
	"assart/node"
	"assart/plan"
	"assart/slot"
	"assart/state"
)

const most = api.Most

// far are numbers that are no count of blocks, cells or steps of a plan, but for those below 0 that let all of it be done.
var far = []int{math.MinInt, math.MinInt + 1, -1 << 62, -1 << 32, -1 << 31, -4001, -2001, -2, -1, 4001, 65536, 1<<31 - 1, 1 << 31, 1 << 32, 1 << 62, math.MaxInt - 1, math.MaxInt}

// deep is a state's copy, in memory of its own.
func deep(s api.State) api.State {
	s.H.C = slices.Clone(s.H.C)
	for p := range s.H.C {
		s.H.C[p].N.It = slices.Clone(s.H.C[p].N.It)
	}
	s.V, s.L = slices.Clone(s.V), slices.Clone(s.L)
	return s
}

// same: are two states the same, all of them?
func same(a, b api.State) bool {
	return heap.Same(a.H, b.H) && slices.Equal(a.V, b.V) && slices.Equal(a.L, b.L) && a.Next == b.Next && a.Gen == b.Gen
}

// whole is a disk's copy, in memory of its own.
func whole(d api.Disk) api.Disk { return api.Disk{B: slices.Clone(d.B), W: slices.Clone(d.W)} }

// picker is a row of numbers that look as if they were drawn; the same for the same seed.
func picker(seed int) func(n int) int {
	x := uint64(seed)*2654435761 + 12345
	return func(n int) int {
		x = x*6364136223846793005 + 1442695040888963407
		return int(x>>33) % n
	}
}

// blank is a new disk for a heap of n cells, with no block more than it needs.
func blank(n int) api.Disk {
	d, _ := disk.New(plan.Base(n) + n)
	return d
}

// fresh is a new state of n cells.
func fresh(n int) api.State {
	s, _ := state.New(n, 0)
	return s
}

// pinned is a state of n cells, from 12 on, some with a Pin, some used, and with a task.
func pinned(n int) api.State {
	s, a, _ := state.Create(fresh(n))
	for k := range 6 {
		s, _ = state.Put(s, a, k, 10*k, false)
	}
	s, b, _ := state.Create(s)
	s, _ = state.Put(s, b, 1, 1, false)
	s, _ = state.Drop(s, b)
	return s
}

// waits is a disk with some writes that wait: to each slot, to the areas, to cells, and to one twice.
func waits(d api.Disk) api.Disk {
	for i, at := range []int{0, 1, 2, 3, 40, len(d.B) - 1, len(d.B) - 2, 3} {
		d, _ = disk.Put(d, at, strings.Repeat(string(rune('a'+i)), 40))
	}
	return d
}

// doneOf is a disk with so many steps of a plan done, worked out apart from the program.
func doneOf(d api.Disk, l []api.Write, many int) api.Disk {
	d = whole(d)
	for _, w := range l[:many] {
		if w.At >= 0 {
			d.W = append(d.W, w)
			continue
		}
		for _, x := range d.W {
			d.B[x.At] = x.S
		}
		d.W = nil
	}
	return d
}

// settledOf is a state behind a commit, likewise.
func settledOf(s api.State) api.State {
	s = deep(s)
	for p := range s.H.C {
		s.H.C[p].Pin = false
	}
	s.Gen++
	return s
}

// doOf is Do, likewise, by the plan alone.
func doOf(d api.Disk, s api.State, stop int) (api.Disk, api.State, api.Errno) {
	l, e := plan.Plan(d, s)
	switch {
	case e != api.OK:
		return d, s, e
	case stop >= 0 && stop < len(l):
		return doneOf(d, l, stop), s, api.ErrDown
	}
	return doneOf(d, l, len(l)), settledOf(s), api.OK
}

// followsOf is Follows, likewise, by the words alone: does t follow s?
func followsOf(s, t api.State) bool {
	if len(s.H.C) != len(t.H.C) {
		return false
	}
	for p := range s.H.C {
		a, b := s.H.C[p], t.H.C[p]
		if a.Ref > 0 && b.Ref > 0 && !(a.N.Leaf == b.N.Leaf && slices.Equal(a.N.It, b.N.It)) {
			return false
		}
		if (a.Ref > 0 || a.Pin) && b.Ref == 0 && !b.Pin {
			return false
		}
		if a.Pin && b.Ref != 0 {
			return false
		}
	}
	return true
}

// holds holds Many, and Do of one number, against what is worked out apart, and that nothing handed in is changed. What Do made is its answer.
func holds(t *testing.T, d api.Disk, s api.State, stop int) (api.Disk, api.State, api.Errno) {
	t.Helper()
	ownD, ownS := whole(d), deep(s)
	x, u, e := Do(d, s, stop)
	wantD, wantS, want := doOf(ownD, ownS, stop)
	if e != want || !disk.Same(x, wantD) || !same(u, wantS) {
		t.Fatalf("stopped at %d: %d, %d writes wait, Gen %d; not %d, %d, %d", stop, e, len(x.W), u.Gen, want, len(wantD.W), wantS.Gen)
	}
	n, f := Many(d, s)
	l, g := plan.Plan(d, s)
	if n != len(l) || f != g {
		t.Fatalf("many: %d, %d; not %d, %d", n, f, len(l), g)
	}
	if !disk.Same(d, ownD) || !same(s, ownS) {
		t.Fatal("what was handed in is changed")
	}
	// P15.4: done, no write waits; else the state is as it was.
	if e == api.OK && len(x.W) != 0 || e != api.OK && !same(u, s) {
		t.Fatalf("%d: %d writes wait, Gen %d", e, len(x.W), u.Gen)
	}
	return x, u, e
}

// holdsAll holds Do behind each number of steps, behind more, and without end; and that it is done behind just so many as Many tells. The commit that was done is its answer.
func holdsAll(t *testing.T, d api.Disk, s api.State) (api.Disk, api.State) {
	t.Helper()
	n, _ := Many(d, s)
	for stop := range n {
		x, _, e := holds(t, d, s, stop)
		if e != api.ErrDown || (stop == 0) != disk.Same(x, d) {
			t.Fatalf("stopped at %d of %d: %d", stop, n, e)
		}
	}
	for _, stop := range append([]int{n, n + 1, n + 40, 1 << 31}, far...) {
		if stop >= 0 && stop < n {
			continue
		}
		if _, u, e := holds(t, d, s, stop); e != api.OK || u.Gen != s.Gen+1 {
			t.Fatalf("%d of %d: %d, Gen %d", stop, n, e, u.Gen)
		}
	}
	x, u, _ := Do(d, s, n)
	return x, u
}

// refused holds that both calls tell the error, and Do what it was given.
func refused(t *testing.T, d api.Disk, s api.State, want api.Errno) {
	t.Helper()
	if n, e := Many(d, s); n != 0 || e != want {
		t.Errorf("%d blocks, %d cells, Gen %d: %d steps, %d; not %d", len(d.B), len(s.H.C), s.Gen, n, e, want)
	}
	for _, stop := range []int{-1, 0, 1, 4, 1000, math.MinInt, math.MaxInt} {
		if x, u, e := Do(d, s, stop); e != want || !disk.Same(x, d) || !same(u, s) {
			t.Errorf("%d blocks, %d cells, Gen %d, stopped at %d: %d; not %d", len(d.B), len(s.H.C), s.Gen, stop, e, want)
		}
	}
}

// pins is how many cells have a Pin.
func pins(s api.State) int {
	many := 0
	for _, c := range s.H.C {
		if c.Pin {
			many++
		}
	}
	return many
}

// The chapter's example, and the whole's: of 135 blocks: 45 cells; the first commit is done in 4 steps.
func TestExample(t *testing.T) {
	d, _ := disk.New(135)
	if n, e := Many(d, fresh(45)); n != 4 || e != api.OK {
		t.Error(n, e)
	}
	for stop := range 4 {
		if _, s, e := Do(d, fresh(45), stop); e != api.ErrDown || s.Gen != 0 {
			t.Error(stop, e)
		}
	}
	x, s, e := Do(d, fresh(45), 4)
	f, u, g := Format(135, 0)
	if e != api.OK || g != api.OK || len(u.H.C) != 45 || !disk.Same(x, f) || !same(s, u) {
		t.Error(e, g, len(u.H.C))
	}
}

// P15.1: a commit by hand: of ten cells, of which one has a leaf, and another a Pin, behind each step.
func TestDoByHand(t *testing.T) {
	d, s, e := Format(96, 0)
	if e != api.OK || len(s.H.C) != 10 {
		t.Fatal(e)
	}
	s, id, _ := state.Create(s)
	s, _ = state.Put(s, id, 7, 70, false)
	s, _ = state.Put(s, id, 7, 71, false)
	if !s.H.C[0].Pin || s.H.C[1].Ref != 1 {
		t.Fatal(s.H.C)
	}
	leaf, _ := node.Print(api.Node{Leaf: true, It: []api.Item{{K: 7, V: 71}}})
	if n, e := Many(d, s); n != 5 || e != api.OK {
		t.Fatal(n, e)
	}
	for stop, want := range []struct {
		at   []int // the writes that wait
		cell string
		slot api.Errno
	}{
		{nil, strings.Repeat("\x00", 40), api.ErrForm},
		{[]int{87}, strings.Repeat("\x00", 40), api.ErrForm},
		{[]int{87, 2}, strings.Repeat("\x00", 40), api.ErrForm},
		{nil, leaf, api.ErrForm},
		{[]int{0}, leaf, api.ErrForm},
		{nil, leaf, api.OK},
	} {
		x, u, e := holds(t, d, s, stop)
		var at []int
		for _, w := range x.W {
			at = append(at, w.At)
		}
		if _, f := slot.Parse(x.B[0]); !slices.Equal(at, want.at) || x.B[87] != want.cell || f != want.slot {
			t.Errorf("behind %d: %v, %q, %d", stop, at, x.B[87], f)
		}
		if stop < 5 && (e != api.ErrDown || u.Gen != 1 || !u.H.C[0].Pin) || stop == 5 && (e != api.OK || u.Gen != 2 || u.H.C[0].Pin) {
			t.Errorf("behind %d: %d, %v", stop, e, u)
		}
	}
}

// P15.1, P15.4: stopped behind no step, behind each, behind all, behind more, and never; of states with Pins and tasks or none, of disks on which writes wait or none.
func TestDo(t *testing.T) {
	for _, n := range []int{12, 45, 300} {
		for _, s := range []api.State{fresh(n), pinned(n)} {
			for _, d := range []api.Disk{blank(n), waits(blank(n))} {
				was := pins(s)
				x, u := holdsAll(t, d, s)
				if pins(u) != 0 || pins(s) != was {
					t.Errorf("%d of %d Pins", pins(u), was)
				}
				if !slices.Equal(u.L, s.L) || !slices.Equal(u.V, s.V) {
					t.Error("the volumes or tasks are others")
				}
				// On what was done another one may follow, with what waited free again.
				u, _, _ = state.Create(u)
				holdsAll(t, x, u)
			}
		}
	}
}

// P15.1: of all kinds of Gens.
func TestDoGens(t *testing.T) {
	for _, gen := range []int{0, 1, 2, 3, 4, 65535, 65536, 1 << 30, most - 2, most - 1} {
		for _, s := range []api.State{fresh(45), pinned(45)} {
			s.Gen = gen
			d, u := holdsAll(t, waits(blank(45)), s)
			if p, e := slot.Parse(d.B[(gen+1)%2]); u.Gen != gen+1 || e != api.OK || p.Gen != gen+1 {
				t.Errorf("Gen %d: %v, %d", u.Gen, p, e)
			}
		}
	}
}

// P15.1: a commit that is done twice, of the Gens that come then: the same area is written at every other one.
func TestDoTwice(t *testing.T) {
	d, s := blank(45), pinned(45)
	first, _ := Many(d, s)
	d, u, _ := holds(t, d, s, -1)
	second, _ := Many(d, u)
	x, v, _ := holds(t, d, u, -1)
	third, _ := Many(x, v)
	y, w, e := holds(t, x, v, -1)
	refs := 0
	for _, c := range s.H.C {
		if c.Ref > 0 {
			refs++
		}
	}
	if e != api.OK || w.Gen != 3 || second != first-refs || third != 3 {
		t.Errorf("%d: %d, %d, %d steps", e, first, second, third)
	}
	// The same commit once more, as if nothing were known of it: just the slot.
	z, again, e := holds(t, d, s, -1)
	if n, _ := Many(d, s); n != 3 || e != api.OK || !disk.Same(z, d) || again.Gen != 1 {
		t.Errorf("%d steps, %d", n, e)
	}
	if disk.Same(x, y) {
		t.Error("the third one wrote nothing")
	}
}

// P15.1: a commit that was stopped is done behind it, in as many steps as are missing yet, and those of its end.
func TestDoOn(t *testing.T) {
	d, s := blank(45), pinned(45)
	all, _ := Many(d, s)
	done, _, _ := Do(d, s, -1)
	for stop := range all {
		x, u, _ := Do(d, s, stop)
		left, _ := Many(x, u)
		if left != max(all-stop, 3) {
			t.Errorf("%d of %d, behind %d", left, all, stop)
		}
		y, v, e := holds(t, x, u, -1)
		if e != api.OK || v.Gen != 1 || !disk.Same(y, done) {
			t.Errorf("behind %d: %d", stop, e)
		}
		holds(t, disk.Crash(x, nil), u, -1)
	}
}

// P15.1: ErrArg, the disk, and the state, where there are blocks for fewer cells, or for more; not where there are just spare ones.
func TestDoWrongDisk(t *testing.T) {
	for _, n := range []int{12, 24, 44, 45, 1999} {
		s := pinned(n)
		least := plan.Base(n) + n
		next := plan.Base(n+1) + n + 1
		for blocks := least; blocks < next; blocks++ {
			d, _ := disk.New(blocks)
			if _, u, e := holds(t, d, s, -1); e != api.OK || u.Gen != 1 {
				t.Errorf("%d blocks: %d", blocks, e)
			}
		}
		for _, blocks := range []int{1, 84, least - 1, next, 4000} {
			d, _ := disk.New(blocks)
			refused(t, d, s, api.ErrArg)
			refused(t, d, fresh(n), api.ErrArg)
		}
		d, _ := disk.New(least - 1)
		refused(t, waits(d), s, api.ErrArg)
	}
}

// P15.1: ErrFull, likewise, of a Gen of Most, or a Ref that is too great for a book; ErrArg ahead of it.
func TestDoFull(t *testing.T) {
	for _, s := range []api.State{fresh(45), pinned(45)} {
		s.Gen = most
		refused(t, blank(45), s, api.ErrFull)
		refused(t, waits(blank(45)), s, api.ErrFull)
		refused(t, blank(44), s, api.ErrArg)
	}
	s := pinned(45)
	s.H.C[s.V[0].Root].Ref = 65536
	refused(t, blank(45), s, api.ErrFull)
	refused(t, blank(46), s, api.ErrArg)
	s.H.C[s.V[0].Root].Ref = 65535
	holdsAll(t, blank(45), s)
}

// P15.2: of as few blocks as have room for one cell, of more, and of as many as a disk may have.
func TestFormat(t *testing.T) {
	for _, x := range [][2]int{{85, 1}, {86, 2}, {88, 4}, {89, 4}, {90, 4}, {91, 5}, {134, 44}, {135, 45}, {2283, 1999}, {2284, 2000}, {3999, 2000}, {4000, 2000}} {
		blocks, n := x[0], x[1]
		for _, keep := range []int{0, 1, n - 1, n} {
			d, s, e := Format(blocks, keep)
			want, _ := state.New(n, keep)
			empty, _ := disk.New(blocks)
			wantD, wantS, f := doOf(empty, want, -1)
			if e != api.OK || f != api.OK || !disk.Same(d, wantD) || !same(s, wantS) {
				t.Errorf("%d blocks, %d kept: %d", blocks, keep, e)
			}
			if len(d.B) != blocks || len(d.W) != 0 || len(s.H.C) != n || s.H.Keep != keep || s.Gen != 1 || s.Next != 1 || len(s.V)+len(s.L) != 0 || heap.Free(s.H) != n {
				t.Errorf("%d blocks, %d kept: %v", blocks, keep, s)
			}
			if p, e := slot.Parse(d.B[1]); e != api.OK || p.Gen != 1 || d.B[0] != strings.Repeat("\x00", 40) {
				t.Errorf("%d blocks: %v, %d", blocks, p, e)
			}
		}
	}
}

// P15.2: ErrArg, and none of both, of no disk, of no room for a cell, and of too few or too many cells that are kept.
func TestFormatNone(t *testing.T) {
	none := func(blocks, keep int) {
		t.Helper()
		d, s, e := Format(blocks, keep)
		if e != api.ErrArg || d.B != nil || d.W != nil || s.H.C != nil || s.H.Keep != 0 || s.V != nil || s.L != nil || s.Next != 0 || s.Gen != 0 {
			t.Errorf("%d blocks, %d kept: %d", blocks, keep, e)
		}
	}
	for _, blocks := range append([]int{0, 1, 2, 3, 83, 84}, far...) {
		for _, keep := range []int{0, 1, -1, 2000, math.MinInt, math.MaxInt} {
			none(blocks, keep)
		}
	}
	for _, x := range [][2]int{{85, 1}, {86, 2}, {90, 4}, {135, 45}, {2283, 1999}, {4000, 2000}} {
		none(x[0], -1)
		none(x[0], x[1]+1)
		for _, keep := range far {
			none(x[0], keep)
		}
	}
}

// cells are one of each kind: free, with a Pin, and of nodes that are unlike one another in one thing alone.
func cells() []api.Cell {
	l := []api.Cell{{}, {Pin: true}}
	for _, n := range []api.Node{
		{Leaf: true, It: []api.Item{{K: 1, V: 1}}},
		{Leaf: true, It: []api.Item{{K: 1, V: 2}}},
		{Leaf: true, It: []api.Item{{K: 2, V: 1}}},
		{Leaf: true, It: []api.Item{{K: 1, V: 1}, {K: 2, V: 1}}},
		{It: []api.Item{{K: 1, V: 1}}},
		{It: []api.Item{{K: 1, V: 1}, {K: 2, V: 1}, {K: 3, V: 1}, {K: 4, V: 1}}},
		{It: []api.Item{{K: 1, V: 1}, {K: 2, V: 1}, {K: 3, V: 1}, {K: 4, V: 0}}},
	} {
		l = append(l, api.Cell{Ref: 1, N: n}, api.Cell{Ref: 2, N: n}, api.Cell{Ref: most, N: n})
	}
	return l
}

// P15.3: each kind of cell behind each, by hand: what may follow what.
func TestFollowsByHand(t *testing.T) {
	a := api.Node{Leaf: true, It: []api.Item{{K: 1, V: 1}}}
	b := api.Node{Leaf: true, It: []api.Item{{K: 1, V: 2}}}
	free, pin := api.Cell{}, api.Cell{Pin: true}
	one, two, other := api.Cell{Ref: 1, N: a}, api.Cell{Ref: 2, N: a}, api.Cell{Ref: 1, N: b}
	for i, x := range []struct {
		was, now api.Cell
		want     bool
	}{
		{free, free, true}, {free, pin, true}, {free, one, true}, {free, two, true},
		{pin, free, false}, {pin, pin, true}, {pin, one, false}, {pin, api.Cell{Ref: 1, Pin: true, N: a}, false}, {pin, other, false},
		{one, free, false}, {one, pin, true}, {one, one, true}, {one, two, true}, {two, one, true}, {one, other, false}, {other, two, false},
		{two, free, false}, {two, pin, true},
		// A node where there is no Ref counts for nothing.
		{free, api.Cell{N: a}, true}, {api.Cell{N: a}, free, true}, {api.Cell{N: a}, api.Cell{N: b}, true}, {api.Cell{N: a}, other, true},
		{api.Cell{Pin: true, N: a}, api.Cell{Pin: true, N: b}, true}, {one, api.Cell{Pin: true, N: b}, true}, {one, api.Cell{N: a}, false},
	} {
		s, u := fresh(1), fresh(1)
		s.H.C[0], u.H.C[0] = x.was, x.now
		if got := Follows(s, u); got != x.want {
			t.Errorf("%d: %v behind %v: %t", i, x.now, x.was, got)
		}
	}
}

// P15.3: each pair of cells, at the first place, in the middle and at the last one, beside others that may follow.
func TestFollows(t *testing.T) {
	for _, was := range cells() {
		for _, now := range cells() {
			for _, p := range []int{0, 6, 11} {
				s := pinned(12)
				u := deep(s)
				s.H.C[p], u.H.C[p] = was, now
				if got, want := Follows(s, u), followsOf(s, u); got != want {
					t.Errorf("%v behind %v at %d: %t", now, was, p, got)
				}
			}
		}
	}
}

// P15.3: of states of the same number of cells or not; nothing else of them counts.
func TestFollowsElse(t *testing.T) {
	for _, n := range []int{12, 45, 1999} {
		for _, s := range []api.State{fresh(n), pinned(n)} {
			u := deep(s)
			u.Gen, u.Next, u.H.Keep, u.V, u.L = 99, 77, 5, []api.Vol{{Id: 9, Root: -1}}, []complex128{5}
			if !Follows(s, s) || !Follows(s, u) || !Follows(u, s) {
				t.Errorf("%d cells, beside themselves", n)
			}
			more, less := deep(s), deep(s)
			more.H.C = append(more.H.C, api.Cell{})
			less.H.C = less.H.C[:n-1]
			for _, x := range []api.State{more, less, fresh(n + 1), fresh(1), {}} {
				if Follows(s, x) || Follows(x, s) {
					t.Errorf("%d cells behind %d", len(x.H.C), n)
				}
			}
		}
	}
	if !Follows(api.State{}, api.State{}) {
		t.Error("of no cells")
	}
}

// chance does to a state what is drawn.
func chance(pick func(n int) int, s api.State) api.State {
	id := 1 + pick(s.Next)
	switch do := pick(20); {
	case do < 2:
		s, _, _ = state.Create(s)
	case do < 4:
		s, _, _ = state.Snap(s, id)
	case do < 5:
		s, _ = state.Drop(s, id)
	case do < 14:
		s, _ = state.Put(s, id, pick(40), pick(1000), pick(2) == 0)
	case do < 16:
		s, _ = state.Del(s, id, pick(40))
	default:
		s = state.Step(s)
	}
	return s
}

// P15.4: what each call of chapter 12 makes of a state follows it, and all that was behind the last commit; what a commit makes doesn't, if there was a Pin.
func TestStatesFollow(t *testing.T) {
	let, behind := 0, 0
	for seed := range 30 {
		pick := picker(seed)
		n := 12 + pick(90)
		d, s := blank(n), fresh(n)
		s.H.Keep = pick(5)
		for range 40 {
			last := s
			for range pick(12) {
				was := s
				s = chance(pick, s)
				if !Follows(was, s) || !Follows(last, s) {
					t.Fatalf("%d: what is done doesn't follow", seed)
				}
				if Follows(s, was) != followsOf(s, was) || Follows(s, last) != followsOf(s, last) {
					t.Fatalf("%d: the other way round", seed)
				}
				if !Follows(s, was) {
					behind++
				}
			}
			x, u, _ := holds(t, d, s, pick(20)-5)
			if u.Gen != s.Gen {
				if Follows(s, u) != (pins(s) == 0) || !Follows(u, u) {
					t.Fatalf("%d: %d Pins", seed, pins(s))
				}
				if pins(s) > 0 {
					let++
				}
			}
			d, s = x, u
			if pick(3) == 0 {
				d = disk.Flush(d)
			}
		}
	}
	if let < 200 || behind < 1000 {
		t.Errorf("just %d commits with Pins, and %d steps that can't be taken back", let, behind)
	}
}

// P15.4: each call of chapter 12 that is refused makes what it was, which follows.
func TestRefusedFollow(t *testing.T) {
	s := pinned(12)
	a, _, e := state.Snap(s, 77)
	b, f := state.Drop(s, 77)
	c, g := state.Put(s, 1, -1, 0, false)
	x, h := state.Del(s, 1, 1000)
	if e*f*g*h == api.OK || !Follows(s, a) || !Follows(s, b) || !Follows(s, c) || !Follows(s, x) {
		t.Error(e, f, g, h)
	}
}

// P15.4: large ones, as many cells as there may be.
func TestLarge(t *testing.T) {
	d, s, e := Format(2284, 100)
	if e != api.OK {
		t.Fatal(e)
	}
	s, id, _ := state.Create(s)
	for k := range 60 {
		s, _ = state.Put(s, id, 1000*k, k, false)
	}
	for _, stop := range []int{0, 1, 100, -1} {
		holds(t, d, s, stop)
	}
	x, u, e := holds(t, waits(d), s, math.MaxInt)
	if e != api.OK || len(x.W) != 0 || u.Gen != 2 || pins(u) != 0 || !Follows(u, u) || Follows(s, u) {
		t.Error(e, u.Gen)
	}
}

// R1: no call panics, or doesn't end, at what no chapter speaks of.
func TestEnds(t *testing.T) {
	odd := []api.State{{}, {Gen: -1}, {Gen: math.MaxInt}, fresh(1), fresh(12)}
	for _, change := range []func(s *api.State){
		func(s *api.State) { s.Gen = math.MinInt },
		func(s *api.State) { s.H.C[0].Ref = -1 },
		func(s *api.State) { s.H.C[3] = api.Cell{Ref: 1} },
		func(s *api.State) { s.H.C[3] = api.Cell{Ref: 1, N: api.Node{It: make([]api.Item, 99)}} },
		func(s *api.State) { s.L = append(s.L, complex(math.NaN(), math.Inf(1))) },
		func(s *api.State) { s.V = append(s.V, api.Vol{Id: -1, Root: 2000}) },
	} {
		s := pinned(12)
		change(&s)
		odd = append(odd, s)
	}
	astray := blank(12)
	astray.W = []api.Write{{At: -1}, {At: -5, S: "x"}, {At: math.MaxInt}}
	for _, d := range []api.Disk{{}, blank(12), astray, {B: make([]string, 98)}, {B: make([]string, 5000)}, {W: []api.Write{{At: 3}}}} {
		for _, s := range odd {
			Many(d, s)
			for _, stop := range []int{-1, 0, 3, math.MinInt, math.MaxInt} {
				Do(d, s, stop)
			}
			for _, x := range odd {
				Follows(s, x)
			}
		}
	}
}

// R3: what is handed in isn't written into, not even behind its end.
func TestHandedIn(t *testing.T) {
	s, d := pinned(45), waits(blank(45))
	d.B = append(make([]string, 0, 400), d.B...)
	d.W = append(make([]api.Write, 0, 400), d.W...)
	s.H.C = append(make([]api.Cell, 0, 400), s.H.C...)
	ownB, ownW, ownC := slices.Clone(d.B[:400]), slices.Clone(d.W[:400]), deep(api.State{H: api.Heap{C: s.H.C[:400]}})
	holdsAll(t, d, s)
	Follows(s, s)
	if !slices.Equal(d.B[:400], ownB) || !slices.Equal(d.W[:400], ownW) || !heap.Same(api.Heap{C: s.H.C[:400]}, ownC.H) {
		t.Error("what lies behind the ends is changed")
	}
}

// R3: two answers of one disk and state are changed apart.
func TestAnswersAreTheirOwn(t *testing.T) {
	d, s := waits(blank(45)), pinned(45)
	for _, stop := range []int{0, 2, -1} {
		x, u, _ := Do(d, s, stop)
		y, v, _ := Do(d, s, stop)
		ownX, ownU := whole(x), deep(u)
		y, _ = disk.Put(y, 3, strings.Repeat("z", 40))
		y = disk.Flush(y)
		v, _ = state.Put(v, 1, 500, 5, true)
		v, _ = state.Del(v, 1, 3)
		_, v, _ = Do(y, state.Step(v), -1)
		if !disk.Same(x, ownX) || !same(u, ownU) || same(u, v) {
			t.Errorf("stopped at %d: another answer is changed", stop)
		}
	}
}

// R4: the same is answered to the same, whatever was asked between, and wherever that lies.
func TestSameAnswers(t *testing.T) {
	d, s := waits(blank(45)), pinned(45)
	x, u, e := Do(d, s, 3)
	f, first, _ := Format(135, 7)
	for range 5 {
		Do(blank(44), s, -1)
		Format(84, 0)
		y, v, g := Do(whole(d), deep(s), 3)
		z, again, _ := Format(135, 7)
		if g != e || !disk.Same(x, y) || !same(u, v) || !disk.Same(f, z) || !same(first, again) || !Follows(deep(s), deep(s)) {
			t.Error("not the same")
		}
	}
}
