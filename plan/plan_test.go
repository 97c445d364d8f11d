package plan

import (
	"bytes"
	"math"
	"slices"
	"strings"
	"testing"

	"assart/api"
	"assart/book"
	"assart/disk"
	"assart/heap"
	"assart/node"
	"assart/slot"
	"assart/state"
)

const most = api.Most

// far are numbers that are no count of cells, and of no disk's blocks.
var far = []int{math.MinInt, math.MinInt + 1, -1 << 62, -1 << 32, -1 << 31, -4001, -2001, -41, -40, -39, -2, -1, 4001, 65536, 1<<31 - 1, 1 << 31, 1 << 32, 1 << 62, math.MaxInt/2 - 1, math.MaxInt / 2, math.MaxInt - 1, math.MaxInt}

// areaOf is Area, worked out apart from it, by the words alone.
func areaOf(n int) int {
	blocks := 0
	for blocks*40 < 1631+2*n {
		blocks++
	}
	return blocks
}

// baseOf is Base, likewise.
func baseOf(n int) int { return 2 + areaOf(n) + areaOf(n) }

// cellsOf is Cells, likewise.
func cellsOf(blocks int) int {
	for n := 2000; n > 0; n-- {
		if baseOf(n)+n <= blocks {
			return n
		}
	}
	return 0
}

// blocksOf is Chunks, likewise.
func blocksOf(b []byte) []string {
	var l []string
	for i, x := range b {
		if i%40 == 0 {
			l = append(l, strings.Repeat("\x00", 40))
		}
		last := []byte(l[len(l)-1])
		last[i%40] = x
		l[len(l)-1] = string(last)
	}
	return l
}

// reads is what a disk holds, block by block.
func reads(d api.Disk) []string {
	l := slices.Clone(d.B)
	for _, w := range d.W {
		l[w.At] = w.S
	}
	return l
}

// planOf is Plan, likewise, of a right disk and a right state, or one of too great Refs.
func planOf(d api.Disk, s api.State) ([]api.Write, api.Errno) {
	n := len(s.H.C)
	if n != cellsOf(len(d.B)) {
		return nil, api.ErrArg
	}
	b, e := book.Print(s)
	if s.Gen == most || e != api.OK {
		return nil, api.ErrFull
	}
	g := s.Gen + 1
	var l []api.Write
	for p, c := range s.H.C {
		if c.Ref > 0 {
			x, _ := node.Print(c.N)
			l = append(l, api.Write{At: 2 + 2*areaOf(n) + p, S: x})
		}
	}
	for i, x := range blocksOf(b) {
		l = append(l, api.Write{At: 2 + g%2*areaOf(n) + i, S: x})
	}
	now := reads(d)
	l = slices.DeleteFunc(l, func(w api.Write) bool { return now[w.At] == w.S })
	size, sum := slot.Book(b)
	super, _ := slot.Print(api.Super{Gen: g, Size: size, Sum: sum})
	return append(l, api.Write{At: -1}, api.Write{At: g % 2, S: super}, api.Write{At: -1}), api.OK
}

// deep is a state's copy, in memory of its own.
func deep(s api.State) api.State {
	s.H.C = slices.Clone(s.H.C)
	for p := range s.H.C {
		s.H.C[p].N.It = slices.Clone(s.H.C[p].N.It)
	}
	s.V, s.L = slices.Clone(s.V), slices.Clone(s.L)
	return s
}

// whole is a disk's copy, likewise.
func whole(d api.Disk) api.Disk { return api.Disk{B: slices.Clone(d.B), W: slices.Clone(d.W)} }

// picker is a row of numbers that look as if they were drawn; the same for the same seed.
func picker(seed int) func(n int) int {
	x := uint64(seed)*2654435761 + 12345
	return func(n int) int {
		x = x*6364136223846793005 + 1442695040888963407
		return int(x>>33) % n
	}
}

// blank is a new disk for a heap of n cells, with no block more than it needs.
func blank(n int) api.Disk {
	d, _ := disk.New(baseOf(n) + n)
	return d
}

// fresh is a new state of n cells.
func fresh(n int) api.State {
	s, _ := state.New(n, 0)
	return s
}

// made are states that filled made: the large ones take a while.
var made = map[int]api.State{}

// filled is a state of n cells that all are used: one tree that is as large as may be, and as many volumes of a leaf each as there must be to use up the rest.
func filled(n int) api.State {
	if s, ok := made[n]; ok {
		return deep(s)
	}
	s, id, _ := state.Create(fresh(n))
	for k, e := 0, api.OK; e == api.OK; k++ {
		s, e = state.Put(s, id, k, k, false)
		s.H = heap.Settle(s.H)
	}
	for e := api.OK; e == api.OK && heap.Free(s.H) > 0; {
		s, id, e = state.Create(s)
		s, _ = state.Put(s, id, id, id, false)
	}
	made[n] = s
	return deep(s)
}

// pinned is a state of n cells, some with a Pin, some used, and with a task.
func pinned(n int) api.State {
	s, a, _ := state.Create(fresh(n))
	for k := range 6 {
		s, _ = state.Put(s, a, k, 10*k, false)
	}
	s, b, _ := state.Create(s)
	s, _ = state.Put(s, b, 1, 1, false)
	s, _ = state.Drop(s, b)
	return s
}

// used is how many cells have a Ref above 0, and how many a Pin.
func used(s api.State) (refs, pins int) {
	for _, c := range s.H.C {
		if c.Ref > 0 {
			refs++
		}
		if c.Pin {
			pins++
		}
	}
	return refs, pins
}

// holds holds a plan against the one that is worked out apart, and what follows of it; and that nothing handed in is changed. The plan is its answer.
func holds(t *testing.T, d api.Disk, s api.State) []api.Write {
	t.Helper()
	ownD, ownS := whole(d), deep(s)
	l, e := Plan(d, s)
	want, f := planOf(ownD, ownS)
	if e != f || !slices.Equal(l, want) {
		t.Fatalf("%d writes, %d; not %d, %d:\n%v\n%v", len(l), e, len(want), f, l, want)
	}
	if !disk.Same(d, ownD) || !book.Same(s, ownS) {
		t.Fatal("what was handed in is changed")
	}
	if e != api.OK {
		return nil
	}
	follows(t, l)
	lands(t, d, s, l)
	return l
}

// P14.3: ahead of the first flush all are blocks from 2 on; then come the slot and a flush.
func follows(t *testing.T, l []api.Write) {
	t.Helper()
	ahead := l[:len(l)-3]
	flush := api.Write{At: -1}
	if at := slices.Index(l, flush); at != len(ahead) || l[at+2] != flush || l[at+1].At < 0 || l[at+1].At > 1 {
		t.Fatalf("%v", l)
	}
	for i, w := range ahead {
		if w.At < 2 || len(w.S) != 40 {
			t.Fatalf("%d: %v", i, w)
		}
	}
}

// lands holds that the plan can be done, that the disk holds the state then, block by block, and all else as it was.
func lands(t *testing.T, d api.Disk, s api.State, l []api.Write) {
	t.Helper()
	was := reads(d)
	d, done := disk.Do(d, l, -1)
	if done != len(l) || len(d.W) != 0 {
		t.Fatalf("%d of %d are done; %d wait", done, len(l), len(d.W))
	}
	n, g := len(s.H.C), s.Gen+1
	for p, c := range s.H.C {
		if x, e := node.Parse(d.B[baseOf(n)+p]); c.Ref > 0 && (e != api.OK || !node.Same(x, c.N)) {
			t.Fatalf("cell %d: %v, %d", p, x, e)
		} else if c.Ref == 0 && d.B[baseOf(n)+p] != was[baseOf(n)+p] {
			t.Fatalf("cell %d, which isn't used, is written", p)
		}
	}
	x, e := slot.Parse(d.B[g%2])
	area := 2 + g%2*areaOf(n)
	b := []byte(strings.Join(d.B[area:area+areaOf(n)], ""))[:x.Size]
	if size, sum := slot.Book(b); e != api.OK || x != (api.Super{Gen: g, Size: size, Sum: sum}) {
		t.Fatalf("Gen %d: %v, %d", g, x, e)
	}
	if told, e := book.Parse(b, s.Gen); e != api.OK || !book.Same(told, book.Bare(s)) {
		t.Fatalf("the book tells %v, %d", told, e)
	}
	other := 2 + (g+1)%2*areaOf(n)
	if d.B[(g+1)%2] != was[(g+1)%2] || !slices.Equal(d.B[other:other+areaOf(n)], was[other:other+areaOf(n)]) || !slices.Equal(d.B[baseOf(n)+n:], was[baseOf(n)+n:]) {
		t.Fatal("what isn't this commit's is written")
	}
}

// refused holds that there is an error, and no plan.
func refused(t *testing.T, d api.Disk, s api.State, want api.Errno) {
	t.Helper()
	if l, e := Plan(d, s); l != nil || e != want {
		t.Errorf("%d blocks, %d cells, Gen %d: %d writes, %d; not %d", len(d.B), len(s.H.C), s.Gen, len(l), e, want)
	}
}

// ats is where a plan writes, in order.
func ats(l []api.Write) []int {
	var at []int
	for _, w := range l {
		at = append(at, w.At)
	}
	return at
}

// done is a disk with a plan done.
func done(d api.Disk, l []api.Write) api.Disk {
	d, _ = disk.Do(d, l, -1)
	return d
}

// The chapter's examples: of 45 cells; and of the whole: 135 blocks, a first commit of 4 steps.
func TestExamples(t *testing.T) {
	if Area(45) != 44 || 1631+2*45 != 1721 || Base(45) != 90 || Cells(135) != 45 {
		t.Error(Area(45), Base(45), Cells(135))
	}
	d, _ := disk.New(135)
	if l, e := Plan(d, fresh(45)); e != api.OK || len(l) != 4 {
		t.Error(len(l), e)
	}
}

// P14.1: the edges of areas: a book of 1639 bytes fits in 41 blocks, one of 1641 doesn't.
func TestAreaEdges(t *testing.T) {
	for _, x := range [][3]int{
		{1, 1633, 41}, {2, 1635, 41}, {4, 1639, 41}, {5, 1641, 42}, {24, 1679, 42}, {25, 1681, 43}, {44, 1719, 43}, {45, 1721, 44},
		{1984, 5599, 140}, {1985, 5601, 141}, {1999, 5629, 141}, {2000, 5631, 141},
	} {
		if n, size, want := x[0], x[1], x[2]; 1631+2*n != size || Area(n) != want || Base(n) != 2+2*want {
			t.Errorf("%d: %d, %d", n, Area(n), Base(n))
		}
	}
}

// P14.1: all areas.
func TestArea(t *testing.T) {
	for n := 1; n <= 2000; n++ {
		a := Area(n)
		if a != areaOf(n) || a*40 < 1631+2*n || (a-1)*40 >= 1631+2*n {
			t.Errorf("Area of %d: %d", n, a)
		}
		if Base(n) != baseOf(n) || Base(n) != 2+2*a {
			t.Errorf("Base of %d: %d", n, Base(n))
		}
	}
}

// P14.1: Cells of no block, of fewer than one cell needs, of as many, of more, and of as many as 2000 need, and more.
func TestCellsEdges(t *testing.T) {
	for _, x := range [][2]int{
		{0, 0}, {1, 0}, {2, 0}, {41, 0}, {84, 0}, {85, 1}, {86, 2}, {87, 3}, {88, 4}, {89, 4}, {90, 4}, {91, 5}, {110, 24}, {111, 24}, {112, 24}, {113, 25},
		{134, 44}, {135, 45}, {136, 46}, {2282, 1998}, {2283, 1999}, {2284, 2000}, {2285, 2000}, {2286, 2000}, {3999, 2000}, {4000, 2000},
	} {
		if got := Cells(x[0]); got != x[1] {
			t.Errorf("Cells of %d: %d, not %d", x[0], got, x[1])
		}
	}
}

// P14.1: Cells of all disks, and of more or fewer blocks than a disk can have.
func TestCells(t *testing.T) {
	for blocks := range 4001 {
		if got := Cells(blocks); got != cellsOf(blocks) {
			t.Errorf("Cells of %d: %d, not %d", blocks, got, cellsOf(blocks))
		}
	}
	for n := 1; n <= 2000; n++ {
		if Cells(Base(n)+n) != n || Cells(Base(n)+n-1) >= n {
			t.Errorf("%d cells: %d of as many blocks as these need, %d of one less", n, Cells(Base(n)+n), Cells(Base(n)+n-1))
		}
	}
	for _, x := range far {
		if got := Cells(x); got != cellsOf(x) {
			t.Errorf("Cells of %d: %d", x, got)
		}
	}
}

// P14.1: a book's blocks, by hand: of no bytes, and of 1, 39, 40, 41 and 80.
func TestChunksEdges(t *testing.T) {
	row := func(n int) string { return strings.Repeat("x", n) }
	zero := func(n int) string { return strings.Repeat("\x00", n) }
	for i, x := range []struct {
		b    string
		want []string
	}{
		{"", nil},
		{"x", []string{"x" + zero(39)}},
		{row(39), []string{row(39) + zero(1)}},
		{row(40), []string{row(40)}},
		{row(40) + "y", []string{row(40), "y" + zero(39)}},
		{row(40) + strings.Repeat("y", 39), []string{row(40), strings.Repeat("y", 39) + zero(1)}},
		{row(40) + strings.Repeat("y", 40), []string{row(40), strings.Repeat("y", 40)}},
		{row(40) + strings.Repeat("y", 40) + "z", []string{row(40), strings.Repeat("y", 40), "z" + zero(39)}},
		{zero(1), []string{zero(40)}},
		{zero(41), []string{zero(40), zero(40)}},
		{"\xff\x80\xc3", []string{"\xff\x80\xc3" + zero(37)}},
	} {
		if got := Chunks([]byte(x.b)); !slices.Equal(got, x.want) {
			t.Errorf("%d: %q", i, got)
		}
	}
	if Chunks(nil) != nil || Chunks([]byte{}) != nil {
		t.Error("blocks of no bytes")
	}
}

// P14.1: blocks of bytes of all lengths: as many as these need, and one behind the other what they were.
func TestChunks(t *testing.T) {
	pick := picker(1)
	for n := range 500 {
		b := make([]byte, n)
		for i := range b {
			b[i] = byte(pick(256))
		}
		got := Chunks(b)
		if !slices.Equal(got, blocksOf(b)) || len(got) != (n+39)/40 {
			t.Fatalf("%d bytes: %q", n, got)
		}
		all := []byte(strings.Join(got, ""))
		if !bytes.Equal(all[:n], b) || strings.Trim(string(all[n:]), "\x00") != "" {
			t.Fatalf("%d bytes: %q", n, all)
		}
	}
	b := bytes.Repeat([]byte("0123456789"), 100000)
	if got := Chunks(b); len(got) != 25000 || strings.Join(got, "") != string(b) {
		t.Error(len(got))
	}
}

// P14.2: a plan worked out by hand: of a new state of one cell, and then of one with a leaf.
func TestPlanByHand(t *testing.T) {
	s := fresh(1)
	l := holds(t, blank(1), s)
	page := "\x01\x00\x00\x00" + "\x00" + "\x00\x00" + "\x00\x00" + "\x01\x00" + "\x00\x00" + strings.Repeat("\x00", 27)
	size, sum := slot.Book([]byte(page[:13]))
	super, _ := slot.Print(api.Super{Gen: 1, Size: 13, Sum: sum})
	if want := []api.Write{{At: 43, S: page}, {At: -1}, {At: 1, S: super}, {At: -1}}; size != 13 || !slices.Equal(l, want) {
		t.Errorf("%v", l)
	}
	d := done(blank(1), l)
	s.Gen = 1
	s, id, _ := state.Create(s)
	s, _ = state.Put(s, id, 7, 70, false)
	l = holds(t, d, s)
	leaf, _ := node.Print(api.Node{Leaf: true, It: []api.Item{{K: 7, V: 70}}})
	page = "\x02\x00\x00\x00" + "\x01" + "\x01\x00\x00\x00\x01\x00" + "\x00\x00" + "\x00\x00" + "\x01\x00" + "\x01\x00" + strings.Repeat("\x00", 21)
	size, sum = slot.Book([]byte(page[:19]))
	super, _ = slot.Print(api.Super{Gen: 2, Size: 19, Sum: sum})
	if want := []api.Write{{At: 84, S: leaf}, {At: 2, S: page}, {At: -1}, {At: 0, S: super}, {At: -1}}; size != 19 || !slices.Equal(l, want) {
		t.Errorf("%v", l)
	}
}

// P14.2: an even Gen's successor goes to the second slot and area, an odd one's to the first.
func TestPlanTurns(t *testing.T) {
	for _, n := range []int{1, 4, 5, 45, 1985, 2000} {
		for _, gen := range []int{0, 1, 2, 3, 4, 65535, 65536, 1<<30 - 1, 1 << 30, most - 2, most - 1} {
			s := fresh(n)
			s.Gen = gen
			l := holds(t, blank(n), s)
			turn := (gen + 1) % 2
			at := ats(l)
			if at[0] != 2+turn*Area(n) || at[len(at)-2] != turn {
				t.Errorf("Gen %d: %v", gen, at)
			}
		}
	}
}

// P14.2: each cell that is used is written, those with a Pin and free ones aren't.
func TestPlanCells(t *testing.T) {
	for _, n := range []int{1, 2, 4, 5, 45, 300, 2000} {
		s := filled(n)
		if refs, _ := used(s); refs != n {
			t.Fatalf("%d of %d are used", refs, n)
		}
		l := holds(t, blank(n), s)
		for p := range n {
			if l[p].At != Base(n)+p {
				t.Fatalf("cell %d: %d", p, l[p].At)
			}
		}
		if l[n].At != 2+Area(n) {
			t.Errorf("behind %d cells: %d", n, l[n].At)
		}
	}
	s := pinned(40)
	refs, pins := used(s)
	if refs == 0 || pins == 0 || len(s.L) != 1 || refs+pins >= 40 {
		t.Fatal(refs, pins, s.L)
	}
	l := holds(t, blank(40), s)
	// Of the book's blocks those of bytes 0 alone are there already.
	pages := slices.DeleteFunc(blocksOf(printed(s)), func(x string) bool { return x == strings.Repeat("\x00", 40) })
	if len(l) != refs+len(pages)+3 || slices.ContainsFunc(l, func(w api.Write) bool { return w.At >= Base(40) && s.H.C[w.At-Base(40)].Ref == 0 }) {
		t.Error(ats(l), refs)
	}
}

// printed is a state's book.
func printed(s api.State) []byte {
	b, _ := book.Print(s)
	return b
}

// P14.2: what the disk holds already isn't written, be it flushed or waiting; what was there, but is written over, is.
func TestPlanHeld(t *testing.T) {
	s := pinned(40)
	clean := blank(40)
	full := holds(t, clean, s)
	for i, w := range full[:len(full)-3] {
		rest := slices.Delete(slices.Clone(full), i, i+1)
		there := whole(clean)
		there.B[w.At] = w.S
		waits, _ := disk.Put(clean, w.At, w.S)
		again, _ := disk.Put(waits, w.At, w.S)
		lost, _ := disk.Put(there, w.At, strings.Repeat("y", 40))
		back, _ := disk.Put(lost, w.At, w.S)
		zero, _ := disk.Put(there, w.At, strings.Repeat("\x00", 40))
		near, _ := disk.Put(clean, w.At, w.S[:39]+string(w.S[39]^1))
		elsewhere, _ := disk.Put(clean, len(clean.B)-1, w.S)
		for j, x := range []struct {
			d    api.Disk
			want []api.Write
		}{{there, rest}, {waits, rest}, {again, rest}, {back, rest}, {disk.Flush(waits), rest}, {lost, full}, {zero, full}, {near, full}, {disk.Crash(waits, nil), full}} {
			if l := holds(t, x.d, s); !slices.Equal(l, x.want) {
				t.Errorf("%d, %d: %v", i, j, ats(l))
			}
		}
		holds(t, elsewhere, s)
	}
}

// P14.2: a disk that holds all of the book's blocks but one, or all of them, or all cells, or all.
func TestPlanBook(t *testing.T) {
	n := 300
	s := filled(n)
	full := holds(t, blank(n), s)
	pages, tail := full[n:len(full)-3], full[len(full)-3:]
	if len(pages) < 10 {
		t.Fatal(len(pages))
	}
	for i := range pages {
		but := slices.Delete(slices.Clone(pages), i, i+1)
		d, _ := disk.Do(blank(n), but, -1)
		if l := holds(t, d, s); !slices.Equal(l, slices.Concat(full[:n], pages[i:i+1], tail)) {
			t.Errorf("all but %d: %v", i, ats(l))
		}
	}
	d, _ := disk.Do(blank(n), pages, -1)
	if l := holds(t, d, s); !slices.Equal(l, slices.Concat(full[:n], tail)) {
		t.Errorf("all of the book: %v", ats(l))
	}
	d, _ = disk.Do(blank(n), full[:n], -1)
	if l := holds(t, d, s); !slices.Equal(l, full[n:]) {
		t.Errorf("all cells: %v", ats(l))
	}
	// The slot is written even where it stands there already, by another plan that was done.
	if l := holds(t, done(blank(n), full), s); !slices.Equal(l, tail) {
		t.Errorf("all: %v", ats(l))
	}
}

// P14.2: what the other area and slot hold counts for nothing.
func TestPlanOtherArea(t *testing.T) {
	s := pinned(40)
	s.Gen = 1
	odd := holds(t, blank(40), s)
	d := done(blank(40), odd)
	refs, _ := used(s)
	s.Gen = 2
	l := holds(t, d, s)
	if len(l) != len(odd)-refs || l[0].At != 2+Area(40) || l[len(l)-2].At != 1 {
		t.Errorf("%v behind %v", ats(l), ats(odd))
	}
}

// P14.3: done twice, the second plan, of the next Gen but one, writes no cell; nor does it write the book, if that is the same.
func TestPlanTwice(t *testing.T) {
	for _, n := range []int{1, 45, 2000} {
		for _, s := range []api.State{fresh(n), filled(n), pinned(max(n, 20))} {
			d := done(blank(len(s.H.C)), holds(t, blank(len(s.H.C)), s))
			s.Gen += 2
			l := holds(t, d, s)
			if len(l) != 3 || l[1].At != 1 {
				t.Errorf("%d cells: %v", n, ats(l))
			}
			// With another volume the book is another one, but no cell is.
			s, _, _ = state.Create(s)
			l = holds(t, d, s)
			if len(l) < 4 || slices.ContainsFunc(l, func(w api.Write) bool { return w.At >= Base(len(s.H.C)) }) {
				t.Errorf("%d cells: %v", n, ats(l))
			}
		}
	}
}

// P14.2: ErrArg, and none, where the disk has room for fewer cells, or for more; not where it has just spare blocks.
func TestPlanWrongDisk(t *testing.T) {
	for _, n := range []int{1, 2, 4, 5, 44, 45, 1999} {
		s := pinned(n)
		least, next := baseOf(n)+n, baseOf(n+1)+n+1
		for blocks := least; blocks < next; blocks++ {
			d, _ := disk.New(blocks)
			holds(t, d, fresh(n))
		}
		for _, blocks := range []int{1, 2, 3, least - 40, least - 2, least - 1, next, next + 1, next + 40, 4000} {
			d, _ := disk.New(max(blocks, 1))
			refused(t, d, fresh(n), api.ErrArg)
			refused(t, d, s, api.ErrArg)
		}
	}
	d, _ := disk.New(4000)
	holds(t, d, fresh(2000))
	d, _ = disk.New(2283)
	refused(t, d, fresh(2000), api.ErrArg)
}

// P14.2: ErrFull, and none, of a Gen of Most, or where a Ref is too great for a book.
func TestPlanFull(t *testing.T) {
	for _, s := range []api.State{fresh(1), fresh(45), pinned(45), filled(45)} {
		d := blank(len(s.H.C))
		s.Gen = most - 1
		if l := holds(t, d, s); l[len(l)-2].At != 1 {
			t.Error(ats(l))
		}
		s.Gen = most
		refused(t, d, s, api.ErrFull)
		holds(t, d, s)
	}
	for _, ref := range []int{65536, 65537, 1 << 17, most} {
		for _, c := range []api.Cell{{Ref: ref}, {Ref: ref, N: api.Node{Leaf: true, It: []api.Item{{K: 1, V: 1}}}}} {
			s := fresh(45)
			s.H.C[44] = c
			refused(t, blank(45), s, api.ErrFull)
			s.Gen = most
			refused(t, blank(45), s, api.ErrFull)
		}
	}
	s := filled(45)
	s.H.C[3].Ref = 65535
	holds(t, blank(45), s)
	s.H.C[3].Ref = 65536
	refused(t, blank(45), s, api.ErrFull)
}

// P14.2: where both are wrong, ErrArg is first.
func TestPlanErrors(t *testing.T) {
	s := filled(45)
	s.Gen = most
	refused(t, blank(44), s, api.ErrArg)
	refused(t, blank(46), s, api.ErrArg)
	s.H.C[3].Ref = 65536
	refused(t, blank(44), s, api.ErrArg)
	s.Gen = 0
	refused(t, blank(46), s, api.ErrArg)
}

// chance does to a state what is drawn.
func chance(pick func(n int) int, s api.State) api.State {
	id := 1 + pick(s.Next)
	switch do := pick(20); {
	case do < 2:
		s, _, _ = state.Create(s)
	case do < 4:
		s, _, _ = state.Snap(s, id)
	case do < 5:
		s, _ = state.Drop(s, id)
	case do < 14:
		s, _ = state.Put(s, id, pick(40), pick(1000), false)
	case do < 16:
		s, _ = state.Del(s, id, pick(40))
	default:
		s = state.Step(s)
	}
	return s
}

// P14.2, P14.3: states that are drawn, and disks to which some of their plans were done, stopped, lost in part, or left waiting.
func TestDrawn(t *testing.T) {
	held, commits := 0, 0
	for seed := range 25 {
		pick := picker(seed)
		n := 20 + pick(80)
		s, d := fresh(n), blank(n)
		s.H.Keep = pick(5)
		for range 60 {
			for range pick(8) {
				s = chance(pick, s)
			}
			l := holds(t, d, s)
			refs, _ := used(s)
			held += refs + len(blocksOf(printed(s))) - (len(l) - 3)
			switch pick(4) {
			case 0:
				d, _ = disk.Do(d, l, pick(len(l)+1))
			case 1:
				d, _ = disk.Do(d, l, pick(len(l)+1))
				keep := make([]bool, len(d.W))
				for i := range keep {
					keep[i] = pick(2) == 0
				}
				d = disk.Crash(d, keep)
			default:
				d = done(d, l)
				s.H, s.Gen = heap.Settle(s.H), s.Gen+1
				commits++
			}
		}
	}
	if held < 1000 || commits < 200 {
		t.Errorf("just %d blocks were there already, in %d commits", held, commits)
	}
}

// R1: no call panics, or doesn't end, at what no chapter speaks of.
func TestEnds(t *testing.T) {
	for _, n := range far {
		Area(n)
		Base(n)
		Cells(n)
	}
	odd := []api.State{{}, {Gen: -1}, {Gen: most + 1}, {Gen: math.MaxInt}, {Next: 1}, fresh(1)}
	for _, change := range []func(s *api.State){
		func(s *api.State) { s.Gen = -1 },
		func(s *api.State) { s.Gen = math.MinInt },
		func(s *api.State) { s.Gen = most + 1 },
		func(s *api.State) { s.Gen = math.MaxInt },
		func(s *api.State) { s.Next = 0 },
		func(s *api.State) { s.V = append(s.V, api.Vol{Id: -1, Root: 2000}) },
		func(s *api.State) { s.L = append(s.L, complex(math.NaN(), math.Inf(1))) },
		func(s *api.State) { s.H.C[0].Ref = -1 },
		func(s *api.State) { s.H.C[0].Ref = math.MinInt },
		func(s *api.State) { s.H.Keep = -1 },
	} {
		s := filled(45)
		change(&s)
		odd = append(odd, s)
		refused(t, blank(45), s, api.ErrFull)
	}
	disks := []api.Disk{{}, {B: make([]string, 135)}, {B: make([]string, 5000)}, {W: []api.Write{{At: 3}}}}
	astray := blank(45)
	astray.W = []api.Write{{At: -1}, {At: -5, S: "x"}, {At: 135}, {At: math.MaxInt, S: strings.Repeat("x", 40)}, {At: 5}, {At: 90, S: "short"}}
	disks = append(disks, astray)
	for _, d := range disks {
		for _, s := range odd {
			Plan(d, s)
		}
		Plan(d, filled(45))
		Plan(d, fresh(2000))
	}
}

// R1: no plan, but an error, of a state of which a node that something refers to has no block.
func TestPlanNoNode(t *testing.T) {
	for _, n := range []api.Node{{}, {Leaf: true}, {Leaf: true, It: make([]api.Item, 5)}, {Leaf: true, It: []api.Item{{K: -1}}}, {It: []api.Item{{K: 1, V: 1 << 31}}}, {It: []api.Item{{K: 2}, {K: 2}}}} {
		for _, p := range []int{0, 20, 44} {
			s := filled(45)
			s.H.C[p].N = n
			refused(t, blank(45), s, api.ErrArg)
			// Of a cell that nothing refers to the node doesn't count.
			s = fresh(45)
			s.H.C[p].N = n
			want, _ := Plan(blank(45), fresh(45))
			if l, e := Plan(blank(45), s); e != api.OK || !slices.Equal(l, want) {
				t.Errorf("%v: %v, %d", n, ats(l), e)
			}
		}
	}
}

// R1: a plan of a disk on which very many writes wait comes soon.
func TestPlanManyWaiting(t *testing.T) {
	d := blank(2000)
	for i := range 1 << 20 {
		d.W = append(d.W, api.Write{At: i % 2, S: d.B[0]})
	}
	holds(t, d, filled(2000))
}

// R3: what is handed in isn't written into, not even behind its end.
func TestHandedIn(t *testing.T) {
	b := append(make([]byte, 0, 200), "some bytes of a book that are not as many as two blocks have"...)
	was := bytes.Clone(b[:cap(b)])
	Chunks(b)
	if !bytes.Equal(b[:cap(b)], was) {
		t.Error("the bytes are changed")
	}
	s := pinned(45)
	d, _ := disk.Do(blank(45), []api.Write{{At: 90, S: strings.Repeat("x", 40)}, {At: 5, S: strings.Repeat("y", 40)}}, -1)
	d.B = append(make([]string, 0, 400), d.B...)
	d.W = append(make([]api.Write, 0, 400), d.W...)
	s.H.C = append(make([]api.Cell, 0, 400), s.H.C...)
	ownB, ownW, ownC := slices.Clone(d.B[:400]), slices.Clone(d.W[:400]), deep(api.State{H: api.Heap{C: s.H.C[:400]}})
	holds(t, d, s)
	if !slices.Equal(d.B[:400], ownB) || !slices.Equal(d.W[:400], ownW) || !heap.Same(api.Heap{C: s.H.C[:400]}, ownC.H) {
		t.Error("what lies behind the ends is changed")
	}
}

// R3: what comes out is nobody else's: neither what is handed in later, nor another answer, is seen in it.
func TestAnswersAreTheirOwn(t *testing.T) {
	b := []byte(strings.Repeat("a", 50))
	c := Chunks(b)
	for i := range b {
		b[i] = 'b'
	}
	if c[0] != strings.Repeat("a", 40) || c[1] != strings.Repeat("a", 10)+strings.Repeat("\x00", 30) {
		t.Errorf("%q", c)
	}
	s, d := pinned(45), blank(45)
	l, _ := Plan(d, s)
	was := slices.Clone(l)
	more, _ := Plan(d, s)
	for i := range more {
		more[i] = api.Write{At: 77, S: "spoilt"}
	}
	_ = append(more[:0], make([]api.Write, cap(more))...)
	for i := range d.B {
		d.B[i] = "spoilt"
	}
	for p := range s.H.C {
		for i := range s.H.C[p].N.It {
			s.H.C[p].N.It[i] = api.Item{K: -1, V: -1}
		}
	}
	if !slices.Equal(l, was) {
		t.Error("a plan is changed")
	}
}

// R4: the same is answered to the same, whatever was asked between, and wherever that lies.
func TestSameAnswers(t *testing.T) {
	s, d := pinned(45), blank(45)
	first, _ := Plan(d, s)
	for i := range 5 {
		Plan(done(blank(45), first), filled(45))
		Plan(blank(44), s)
		l, e := Plan(whole(d), deep(s))
		if e != api.OK || !slices.Equal(l, first) {
			t.Errorf("%d: %v, %d", i, ats(l), e)
		}
	}
	if Area(45) != Area(45) || Cells(135) != Cells(135) || !slices.Equal(Chunks(printed(s)), Chunks(printed(s))) {
		t.Error("not the same")
	}
}
