package disk

import (
	"math"
	"slices"
	"strconv"
	"strings"
	"testing"

	"assart/api"
)

var noughts = strings.Repeat("\x00", 40)

// block is 40 bytes of one kind.
func block(c byte) string { return strings.Repeat(string([]byte{c}), 40) }

// numbered is a block that tells a number.
func numbered(n int) string {
	s := strconv.Itoa(n)
	return s + strings.Repeat(".", 40-len(s))
}

func fresh(t *testing.T, n int) api.Disk {
	t.Helper()
	d, e := New(n)
	if e != api.OK || len(d.B) != n {
		t.Fatalf("New(%d): %d blocks, %d", n, len(d.B), e)
	}
	return d
}

func put(t *testing.T, d api.Disk, at int, s string) api.Disk {
	t.Helper()
	x, e := Put(d, at, s)
	if e != api.OK {
		t.Fatalf("Put at %d: %d", at, e)
	}
	return x
}

// same is Same, worked out apart from it.
func same(a, b api.Disk) bool {
	if len(a.B) != len(b.B) || len(a.W) != len(b.W) {
		return false
	}
	for i := range a.B {
		if a.B[i] != b.B[i] {
			return false
		}
	}
	for i := range a.W {
		if a.W[i].At != b.W[i].At || a.W[i].S != b.W[i].S {
			return false
		}
	}
	return true
}

// deep is a disk in memory of its own.
func deep(d api.Disk) api.Disk {
	return api.Disk{B: append([]string(nil), d.B...), W: append([]api.Write(nil), d.W...)}
}

// busy is a disk of 4 blocks, three of them flushed, with 4 writes that wait, two of them to one block.
func busy() api.Disk {
	return api.Disk{
		B: []string{block('p'), block('q'), block('r'), noughts},
		W: []api.Write{{At: 1, S: block('a')}, {At: 2, S: block('b')}, {At: 1, S: block('c')}, {At: 3, S: block('d')}},
	}
}

// flags is as many flags as many says: the bits of n, the lowest first.
func flags(n, many int) []bool {
	l := make([]bool, many)
	for i := range l {
		l[i] = n>>i&1 == 1
	}
	return l
}

// P2.1: a disk of n blocks of bytes 0, without writes.
func TestNew(t *testing.T) {
	for _, n := range []int{1, 2, 3, 135, 3999, 4000} {
		d := fresh(t, n)
		for i, s := range d.B {
			if s != noughts {
				t.Fatalf("New(%d): block %d is %q", n, i, s)
			}
		}
		if len(d.W) != 0 || !Right(d) {
			t.Errorf("New(%d): %d writes, right: %v", n, len(d.W), Right(d))
		}
	}
}

// P2.1: ErrArg, and no disk.
func TestNewNone(t *testing.T) {
	for _, n := range []int{0, -1, -2, 4001, 4002, 1 << 31, 1 << 32, 1<<32 + 1, math.MinInt, math.MaxInt} {
		if d, e := New(n); e != api.ErrArg || len(d.B) != 0 || len(d.W) != 0 {
			t.Errorf("New(%d): %d blocks, %d writes, %d", n, len(d.B), len(d.W), e)
		}
	}
}

// P2.1: the disks that are right.
func TestRight(t *testing.T) {
	most := api.Disk{B: slices.Repeat([]string{block('m')}, 4000)}
	most.W = []api.Write{{At: 3999, S: block('x')}, {At: 0, S: block('y')}}
	long := fresh(t, 2)
	for i := range 5000 {
		long.W = append(long.W, api.Write{At: i % 2, S: numbered(i)})
	}
	for i, d := range []api.Disk{
		{B: []string{block('a')}},
		{B: []string{block('a')}, W: []api.Write{}},
		{B: []string{block('a')}, W: []api.Write{{At: 0, S: noughts}}},
		{B: []string{noughts, strings.Repeat("\xff", 40), strings.Repeat("é", 20)}},
		busy(), most, long,
	} {
		if !Right(d) {
			t.Errorf("%d: isn't right", i)
		}
	}
}

// P2.1: the disks that aren't right.
func TestNotRight(t *testing.T) {
	with := func(w ...api.Write) api.Disk { return api.Disk{B: busy().B, W: w} }
	good := api.Write{At: 1, S: block('a')}
	for i, d := range []api.Disk{
		{}, {B: []string{}}, {W: []api.Write{{At: 0, S: block('a')}}},
		{B: []string{""}},
		{B: []string{strings.Repeat("a", 39)}},
		{B: []string{strings.Repeat("a", 41)}},
		{B: []string{strings.Repeat("é", 40)}},
		{B: []string{strings.Repeat("a", 39), block('b'), block('c')}},
		{B: []string{block('b'), strings.Repeat("a", 41), block('c')}},
		{B: []string{block('b'), block('c'), ""}},
		{B: slices.Repeat([]string{block('m')}, 4001)},
		{B: slices.Repeat([]string{block('m')}, 9000)},
		with(api.Write{At: -1}),
		with(api.Write{At: -1, S: block('a')}),
		with(api.Write{At: 4, S: block('a')}),
		with(api.Write{At: math.MaxInt, S: block('a')}),
		with(api.Write{At: math.MinInt, S: block('a')}),
		with(api.Write{At: 0}),
		with(api.Write{At: 0, S: strings.Repeat("a", 39)}),
		with(api.Write{At: 0, S: strings.Repeat("a", 41)}),
		with(good, api.Write{At: 4, S: block('a')}, good),
		with(good, good, api.Write{At: 3, S: "a"}),
	} {
		if Right(d) {
			t.Errorf("%d: is right", i)
		}
	}
}

// P2.1: two disks are the same, if all of them is, in order.
func TestSame(t *testing.T) {
	none := api.Disk{}
	if !Same(none, none) || !Same(none, api.Disk{B: []string{}, W: []api.Write{}}) {
		t.Error("no blocks, no writes: not the same")
	}
	if a, b := fresh(t, 3), (api.Disk{B: []string{noughts, noughts, noughts}, W: []api.Write{}}); !Same(a, b) || !Same(b, a) {
		t.Error("new disks: not the same")
	}
	if !Same(busy(), busy()) {
		t.Error("busy disks: not the same")
	}
	for i, change := range []func(d *api.Disk){
		func(d *api.Disk) { d.B[0] = block('z') },
		func(d *api.Disk) { d.B[3] = block('z') },
		func(d *api.Disk) { d.B[3] = noughts[:39] + "\x01" },
		func(d *api.Disk) { d.B[0], d.B[1] = d.B[1], d.B[0] },
		func(d *api.Disk) { d.B = d.B[:3] },
		func(d *api.Disk) { d.B = append(d.B, noughts) },
		func(d *api.Disk) { d.B = nil },
		func(d *api.Disk) { d.W[0].At = 0 },
		func(d *api.Disk) { d.W[3].At = 0 },
		func(d *api.Disk) { d.W[0].S = block('z') },
		func(d *api.Disk) { d.W[3].S = block('z') },
		func(d *api.Disk) { d.W[0], d.W[1] = d.W[1], d.W[0] },
		func(d *api.Disk) { d.W = d.W[:3] },
		func(d *api.Disk) { d.W = d.W[1:] },
		func(d *api.Disk) { d.W = append(d.W, d.W[3]) },
		func(d *api.Disk) { d.W = nil },
	} {
		d := busy()
		change(&d)
		if Same(d, busy()) || Same(busy(), d) {
			t.Errorf("%d: the same", i)
		}
	}
	// Once all is done these two hold the same, and yet they aren't.
	if d := busy(); Same(d, Flush(d)) {
		t.Error("a disk with writes that wait is the same as the flushed one")
	}
}

// P2.2: what the last write to a block wrote, or the block.
func TestRead(t *testing.T) {
	for at, want := range []string{block('p'), block('c'), block('b'), block('d')} {
		if s, e := Read(busy(), at); s != want || e != api.OK {
			t.Errorf("Read at %d: %q, %d", at, s, e)
		}
	}
	if s, e := Read(fresh(t, 4000), 3999); s != noughts || e != api.OK {
		t.Errorf("Read of the last block: %q, %d", s, e)
	}
}

// P2.2: ErrArg, and nothing, of no such block.
func TestReadNone(t *testing.T) {
	for _, at := range []int{-1, -2, 4, 5, 1 << 32, math.MinInt, math.MaxInt} {
		if s, e := Read(busy(), at); s != "" || e != api.ErrArg {
			t.Errorf("Read at %d: %q, %d", at, s, e)
		}
	}
}

// P2.2: the disk with one write more.
func TestPut(t *testing.T) {
	d, want := busy(), busy()
	for i, at := range []int{0, 3, 0, 1} {
		s := numbered(i)
		x, e := Put(d, at, s)
		want.W = append(want.W, api.Write{At: at, S: s})
		if e != api.OK || !same(x, want) || !Right(x) {
			t.Fatalf("Put at %d: %v, %d", at, x, e)
		}
		if got, e := Read(x, at); got != s || e != api.OK {
			t.Errorf("Read behind Put at %d: %q, %d", at, got, e)
		}
		d = x
	}
}

// P2.2: ErrArg, and the disk as it was.
func TestPutNone(t *testing.T) {
	for i, w := range []api.Write{
		{At: -1, S: block('a')}, {At: 4, S: block('a')}, {At: 5, S: block('a')},
		{At: math.MinInt, S: block('a')}, {At: math.MaxInt, S: block('a')}, {At: 1 << 32, S: block('a')},
		{At: 0, S: ""}, {At: 0, S: "a"}, {At: 3, S: block('a')[:39]}, {At: 0, S: block('a') + "a"}, {At: 0, S: block('a') + block('a')},
		{At: 0, S: strings.Repeat("é", 40)},
		{At: -1, S: ""}, {At: 4, S: "a"},
	} {
		if x, e := Put(busy(), w.At, w.S); e != api.ErrArg || !same(x, busy()) {
			t.Errorf("%d: %v, %d", i, x, e)
		}
	}
}

// P2.3: a flush does all writes, in order.
func TestFlush(t *testing.T) {
	want := api.Disk{B: []string{block('p'), block('c'), block('b'), block('d')}}
	if x := Flush(busy()); !same(x, want) || !Right(x) {
		t.Errorf("Flush: %v", x)
	}
	if x := Flush(want); !same(x, want) {
		t.Errorf("Flush without writes: %v", x)
	}
}

// P2.3: a crash does just the writes that are kept, place by place.
func TestCrash(t *testing.T) {
	p, q, r := block('p'), block('q'), block('r')
	a, b, c, d := block('a'), block('b'), block('c'), block('d')
	for i, x := range []struct {
		keep []bool
		want []string
	}{
		{nil, []string{p, q, r, noughts}},
		{[]bool{}, []string{p, q, r, noughts}},
		{[]bool{false, false, false, false}, []string{p, q, r, noughts}},
		{[]bool{true}, []string{p, a, r, noughts}},
		{[]bool{false, true}, []string{p, q, b, noughts}},
		{[]bool{false, false, true}, []string{p, c, r, noughts}},
		{[]bool{false, false, false, true}, []string{p, q, r, d}},
		{[]bool{true, false, true}, []string{p, c, r, noughts}},
		{[]bool{true, true, false, true}, []string{p, a, b, d}},
		{[]bool{true, true, true, true}, []string{p, c, b, d}},
		{[]bool{false, false, false, false, true}, []string{p, q, r, noughts}},
		{append([]bool{true, true, true, true}, make([]bool, 100)...), []string{p, c, b, d}},
		{slices.Repeat([]bool{true}, 1000), []string{p, c, b, d}},
	} {
		if got := Crash(busy(), x.keep); !same(got, api.Disk{B: x.want}) || !Right(got) {
			t.Errorf("%d: %v", i, got)
		}
	}
	whole := fresh(t, 3)
	if got := Crash(whole, []bool{true, false}); !same(got, whole) {
		t.Errorf("without writes: %v", got)
	}
}

// Behind the flags that are handed in, within their memory, nothing is said.
func TestCrashFlagsBehind(t *testing.T) {
	keep := []bool{true, true, true, true}
	want := api.Disk{B: []string{block('p'), block('a'), block('r'), noughts}}
	if got := Crash(busy(), keep[:1]); !same(got, want) {
		t.Errorf("%v", got)
	}
}

// P2.4: how far a plan is done.
func TestDo(t *testing.T) {
	a, b, c := block('a'), block('b'), block('c')
	plan := []api.Write{{At: 0, S: a}, {At: 1, S: b}, {At: -1}, {At: -1}, {At: 0, S: c}, {At: 2, S: c}, {At: 0, S: a}}
	n := noughts
	states := []api.Disk{
		{B: []string{n, n}},
		{B: []string{n, n}, W: plan[:1]},
		{B: []string{n, n}, W: plan[:2]},
		{B: []string{a, b}},
		{B: []string{a, b}},
		{B: []string{a, b}, W: plan[4:5]},
	}
	for stop := -3; stop < 12; stop++ {
		want := min(stop, 5)
		if stop < 0 {
			want = 5
		}
		if x, done := Do(fresh(t, 2), plan, stop); done != want || !same(x, states[want]) {
			t.Errorf("stop %d: %d done, %v", stop, done, x)
		}
	}
	for _, stop := range []int{math.MinInt, math.MaxInt, 1 << 32} {
		if x, done := Do(fresh(t, 2), plan, stop); done != 5 || !same(x, states[5]) {
			t.Errorf("stop %d: %d done, %v", stop, done, x)
		}
	}
}

// P2.4: a plan that can be done is done to its end; one without steps leaves the disk as it is.
func TestDoAll(t *testing.T) {
	plan := []api.Write{{At: 3, S: block('x')}, {At: 0, S: block('y')}}
	for _, stop := range []int{-1, 2, 3} {
		want := busy()
		want.W = append(want.W, plan...)
		if x, done := Do(busy(), plan, stop); done != 2 || !same(x, want) {
			t.Errorf("stop %d: %d done, %v", stop, done, x)
		}
	}
	for _, none := range [][]api.Write{nil, {}} {
		for _, stop := range []int{-1, 0, 1, math.MaxInt} {
			if x, done := Do(busy(), none, stop); done != 0 || !same(x, busy()) {
				t.Errorf("no plan, stop %d: %d done, %v", stop, done, x)
			}
		}
	}
}

// P2.4: a flush in a plan does the writes that waited ahead of it too.
func TestDoFlushesOlder(t *testing.T) {
	x, done := Do(busy(), []api.Write{{At: 1, S: block('x')}, {At: -1}, {At: 0, S: block('y')}}, -1)
	want := api.Disk{B: []string{block('p'), block('x'), block('b'), block('d')}, W: []api.Write{{At: 0, S: block('y')}}}
	if done != 3 || !same(x, want) {
		t.Errorf("%d done, %v", done, x)
	}
}

// P2.4: the first step that can't be done ends it, whatever comes behind.
func TestDoStepsThatCant(t *testing.T) {
	good := api.Write{At: 0, S: block('g')}
	for i, bad := range []api.Write{
		{At: -1, S: block('a')}, {At: -1, S: "a"}, {At: -2}, {At: 0}, {At: 4},
		{At: 4, S: block('a')}, {At: math.MaxInt, S: block('a')}, {At: math.MinInt}, {At: math.MinInt, S: block('a')},
		{At: 0, S: block('a')[:39]}, {At: 0, S: block('a') + "a"},
	} {
		if x, done := Do(busy(), []api.Write{bad, good, {At: -1}}, -1); done != 0 || !same(x, busy()) {
			t.Errorf("%d: %d done, %v", i, done, x)
		}
		want := busy()
		want.W = append(want.W, good)
		if x, done := Do(busy(), []api.Write{good, bad, {At: -1}}, 9); done != 1 || !same(x, want) {
			t.Errorf("%d, one ahead of it: %d done, %v", i, done, x)
		}
	}
}

// P2.4: a plan is done one by one, as Put and Flush do it.
func TestDoOneByOne(t *testing.T) {
	seed := uint32(5)
	for range 200 {
		var plan []api.Write
		for i := range 20 {
			seed = seed*1664525 + 1013904223
			plan = append(plan, api.Write{At: int(seed >> 30), S: numbered(i)})
			if seed>>20&3 == 0 {
				plan = append(plan, api.Write{At: -1})
			}
		}
		want := busy()
		for stop := range len(plan) + 1 {
			if x, done := Do(busy(), plan, stop); done != stop || !same(x, want) {
				t.Fatalf("stop %d of %v: %d done, %v", stop, plan, done, x)
			}
			if stop == len(plan) {
				break
			}
			if w := plan[stop]; w.At < 0 {
				want = Flush(want)
			} else {
				want = put(t, want, w.At, w.S)
			}
		}
	}
}

// A long plan is done in a time that grows as it does: with a copy of the disk at each step this would take minutes.
func TestDoLong(t *testing.T) {
	var plan []api.Write
	for i := range 300000 {
		plan = append(plan, api.Write{At: i % 4000, S: noughts})
		if i < 100000 {
			plan = append(plan, api.Write{At: -1})
		}
	}
	if x, done := Do(fresh(t, 4000), plan, -1); done != 400000 || len(x.W) != 200000 {
		t.Errorf("%d done, %d wait", done, len(x.W))
	}
}

// P2.5: what is flushed stays, whatever is lost behind.
func TestFlushedStays(t *testing.T) {
	d := Flush(busy())
	d = put(t, d, 0, block('x'))
	d = put(t, d, 2, block('y'))
	d = put(t, d, 0, block('z'))
	for n := range 8 {
		x := Crash(d, flags(n, 3))
		for _, at := range []int{1, 3} {
			if s, e := Read(x, at); s != block("pcbd"[at]) || e != api.OK {
				t.Errorf("keep %d: block %d is %q, %d", n, at, s, e)
			}
		}
	}
	if x := Crash(d, nil); !same(x, Flush(busy())) {
		t.Errorf("all lost: %v", x)
	}
}

// P2.5: with all kept a crash is a flush.
func TestAllKept(t *testing.T) {
	seed := uint32(9)
	for n := range 40 {
		d := busy()
		for i := range n {
			seed = seed*1664525 + 1013904223
			d = put(t, d, int(seed>>30), numbered(i))
		}
		keep := slices.Repeat([]bool{true}, len(d.W))
		if x := Crash(d, keep); !same(x, Flush(d)) {
			t.Fatalf("%d writes: %v", len(d.W), x)
		}
	}
}

// P2.5: two writes to two blocks hang on no order; two to one block do.
func TestOrder(t *testing.T) {
	v, w := api.Write{At: 0, S: block('v')}, api.Write{At: 1, S: block('w')}
	d := busy()
	a := put(t, put(t, d, v.At, v.S), w.At, w.S)
	b := put(t, put(t, d, w.At, w.S), v.At, v.S)
	if !same(Flush(a), Flush(b)) {
		t.Error("a flush hangs on the order")
	}
	for at := range 4 {
		s, _ := Read(a, at)
		if z, _ := Read(b, at); s != z {
			t.Errorf("Read at %d hangs on the order", at)
		}
	}
	for n := range 4 {
		turned := n&1<<1 | n>>1
		if !same(Crash(a, flags(n<<4, 6)), Crash(b, flags(turned<<4, 6))) {
			t.Errorf("keep %d: a crash hangs on the order", n)
		}
	}
	one := put(t, put(t, d, 0, block('v')), 0, block('w'))
	if Flush(one).B[0] != block('w') {
		t.Error("the last one doesn't win")
	}
}

// The example: of a new disk, block 1 written, and lost: as new.
func TestExample(t *testing.T) {
	d := put(t, fresh(t, 3), 1, block('a'))
	if s, e := Read(d, 1); s != block('a') || e != api.OK {
		t.Errorf("written: %q, %d", s, e)
	}
	if x := Crash(d, nil); !Same(x, fresh(t, 3)) {
		t.Errorf("lost: %v", x)
	}
}

// roomy is a busy disk whose lists have room behind their ends, filled, and all that memory.
func roomy() (api.Disk, []string, []api.Write) {
	b := append(busy().B, block('1'), block('2'), block('3'))
	w := append(busy().W, api.Write{At: 2, S: block('4')}, api.Write{At: 0, S: block('5')})
	return api.Disk{B: b[:4], W: w[:4]}, b, w
}

// R3: what is handed in isn't written into, not even behind its end.
func TestHandedIn(t *testing.T) {
	d, b, w := roomy()
	wantB, wantW := slices.Clone(b), slices.Clone(w)
	keep := []bool{true, false, true, true, true}
	plan := []api.Write{{At: 0, S: block('x')}, {At: -1}, {At: 1, S: block('y')}, {At: 9}, {At: -1}}
	wantPlan := slices.Clone(plan)
	for name, call := range map[string]func(){
		"Right": func() { Right(d) },
		"Read":  func() { Read(d, 1) },
		"Put":   func() { Put(d, 0, block('x')) },
		"Flush": func() { Flush(d) },
		"Crash": func() { Crash(d, keep) },
		"Do":    func() { Do(d, plan, -1) },
		"stop":  func() { Do(d, plan, 1) },
		"Same":  func() { Same(d, d) },
	} {
		call()
		if !slices.Equal(b, wantB) || !slices.Equal(w, wantW) || !slices.Equal(plan, wantPlan) {
			t.Fatalf("%s writes into what is handed in", name)
		}
		if !slices.Equal(keep, []bool{true, false, true, true, true}) {
			t.Fatalf("%s writes into the flags", name)
		}
	}
}

// R3: no later call shows in what came out of an earlier one.
func TestComesOut(t *testing.T) {
	d, _, _ := roomy()
	outs := []api.Disk{d, put(t, d, 0, block('x')), Flush(d), Crash(d, []bool{true, true})}
	y, _ := Do(d, []api.Write{{At: -1}, {At: 2, S: block('y')}}, -1)
	z, _ := Do(d, []api.Write{{At: 2, S: block('z')}}, -1)
	same1, _ := Put(d, 9, "")
	outs = append(outs, y, z, same1)
	var were []api.Disk
	for _, x := range outs {
		were = append(were, deep(x))
	}
	for _, x := range outs {
		for at := range 4 {
			p := put(t, x, at, numbered(at))
			put(t, p, at, numbered(at+9))
			Do(p, []api.Write{{At: -1}, {At: at, S: numbered(at + 99)}, {At: -1}}, -1)
			Flush(p)
		}
	}
	for i, x := range outs {
		if !same(x, were[i]) {
			t.Errorf("%d: changed by a later call", i)
		}
	}
}

// R3: two disks that came of one have each their own next write.
func TestTwoOfOne(t *testing.T) {
	d := put(t, fresh(t, 2), 0, block('a'))
	for range 5 {
		d = put(t, d, 0, block('a'))
		x := put(t, d, 1, block('x'))
		y := put(t, d, 1, block('y'))
		p, _ := Do(d, []api.Write{{At: 1, S: block('p')}}, -1)
		q, _ := Do(d, []api.Write{{At: 1, S: block('q')}}, -1)
		for i, z := range []api.Disk{x, y, p, q} {
			if s, _ := Read(z, 1); s != block("xypq"[i]) {
				t.Fatalf("%d: %q", i, s)
			}
		}
	}
}

// R1: disks that aren't right end no call in a panic.
func TestWrongDisks(t *testing.T) {
	for i, d := range []api.Disk{
		{}, {W: busy().W}, {B: []string{"a"}},
		{B: busy().B, W: []api.Write{{At: -1}, {At: 4, S: block('a')}, {At: math.MaxInt}, {At: math.MinInt}, {At: 0, S: "b"}}},
		{B: slices.Repeat([]string{""}, 4001), W: []api.Write{{At: 4000}}},
	} {
		was := deep(d)
		for at := -1; at < 6; at++ {
			Read(d, at)
			Put(d, at, block('x'))
		}
		Flush(d)
		Crash(d, flags(1<<10-1, 10))
		Do(d, []api.Write{{At: 0, S: block('x')}, {At: -1}, {At: 0, S: block('y')}}, -1)
		if Right(d) || !Same(d, was) {
			t.Errorf("%d: right: %v", i, Right(d))
		}
	}
}

// R4: the same arguments, the same answers.
func TestSameAnswers(t *testing.T) {
	plan := []api.Write{{At: 0, S: block('x')}, {At: -1}, {At: 1, S: block('y')}}
	first, n := Do(busy(), plan, -1)
	for range 3 {
		Flush(fresh(t, 9))
		Put(busy(), 9, "")
		if x, done := Do(busy(), plan, -1); done != n || !same(x, first) {
			t.Fatal("another answer")
		}
	}
}
