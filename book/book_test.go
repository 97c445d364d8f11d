package book

import (
	"bytes"
	"math"
	"slices"
	"testing"

	"assart/api"
	"assart/heap"
	"assart/state"
)

const most = api.Most

// minus is the nought below 0.
var minus = math.Copysign(0, -1)

// far are numbers that no book tells at any place.
var far = []int{math.MinInt, math.MinInt + 1, -1 << 32, -1<<32 + 1, -1 << 31, -65536, -2001, -2, 1 << 31, 1<<31 + 1, 1<<32 - 1, 1 << 32, 1<<32 + 1, 1<<48 + 1, math.MaxInt - 1, math.MaxInt}

// le is a number's bytes, the lowest first, worked out apart from num; what doesn't fit is left out.
func le(n, w int) []byte {
	b := make([]byte, w)
	for i := range b {
		b[i] = byte(n)
		n /= 256
	}
	return b
}

// bytesOf is the bytes that would tell a state, be it such as a book tells or not, worked out apart from Print, by the words alone.
func bytesOf(s api.State) []byte {
	var b []byte
	tell := func(n, w int) { b = append(b, le(n, w)...) }
	tell(s.Next, 4)
	tell(len(s.V), 1)
	for _, v := range s.V {
		tell(v.Id, 4)
		tell(v.Root+1, 2)
	}
	tell(len(s.L), 2)
	for _, t := range s.L {
		tell(int(real(t)), 2)
		tell(int(imag(t)), 1)
	}
	tell(s.H.Keep, 2)
	tell(len(s.H.C), 2)
	for _, c := range s.H.C {
		tell(c.Ref, 2)
	}
	return b
}

// tells: is a bare state such as a book tells, by the words alone?
func tells(s api.State) bool {
	n := len(s.H.C)
	if s.Next < 1 || s.Next > 1<<31-1 || s.Gen < 0 || s.Gen > 1<<31-1 || len(s.V) > 20 || len(s.L) > 500 || n < 1 || n > 2000 || s.H.Keep < 0 || s.H.Keep > n {
		return false
	}
	for i, v := range s.V {
		if v.Id < 1 || v.Id >= s.Next || i > 0 && v.Id <= s.V[i-1].Id {
			return false
		}
		if v.Root != -1 && (v.Root < 0 || v.Root >= n || s.H.C[v.Root].Ref == 0) {
			return false
		}
	}
	for _, t := range s.L {
		if p, k := int(real(t)), int(imag(t)); p < 0 || p >= n || k < 0 || k > 5 {
			return false
		}
	}
	for _, c := range s.H.C {
		if c.Ref < 0 || c.Ref > 65535 {
			return false
		}
	}
	return true
}

// read is Parse, worked out apart from it, by the words alone.
func read(b []byte, gen int) (api.State, api.Errno) {
	at := 0
	take := func(w int) int {
		n := 0
		for i := range w {
			if at+i < len(b) {
				n += int(b[at+i]) << (8 * i)
			}
		}
		at += w
		return n
	}
	s := api.State{Next: take(4), Gen: gen}
	for i := take(1); i > 0 && at < len(b); i-- {
		id := take(4)
		s.V = append(s.V, api.Vol{Id: id, Root: take(2) - 1})
	}
	for i := take(2); i > 0 && at < len(b); i-- {
		p := take(2)
		s.L = append(s.L, complex(float64(p), float64(take(1))))
	}
	s.H.Keep = take(2)
	for i := take(2); i > 0 && at < len(b); i-- {
		s.H.C = append(s.H.C, api.Cell{Ref: take(2)})
	}
	// What is told by bytes that aren't there, or by less than all, doesn't have these bytes.
	if !tells(s) || !bytes.Equal(bytesOf(s), b) {
		return api.State{}, api.ErrForm
	}
	return s, api.OK
}

// deep is a state's copy, in memory of its own.
func deep(s api.State) api.State {
	s.H.C = slices.Clone(s.H.C)
	for p := range s.H.C {
		s.H.C[p].N.It = slices.Clone(s.H.C[p].N.It)
	}
	s.V, s.L = slices.Clone(s.V), slices.Clone(s.L)
	return s
}

// same is Same, worked out apart from it.
func same(a, b api.State) bool {
	cells := slices.EqualFunc(a.H.C, b.H.C, func(x, y api.Cell) bool {
		return x.Ref == y.Ref && x.Pin == y.Pin && x.N.Leaf == y.N.Leaf && slices.Equal(x.N.It, y.N.It)
	})
	return cells && a.H.Keep == b.H.Keep && slices.Equal(a.V, b.V) && slices.Equal(a.L, b.L) && a.Next == b.Next && a.Gen == b.Gen
}

// bared is Bare, likewise.
func bared(s api.State) api.State {
	s = deep(s)
	for p := range s.H.C {
		s.H.C[p].Pin = false
		s.H.C[p].N = api.Node{}
	}
	return s
}

// refs is a bare heap of these Refs.
func refs(keep int, l ...int) api.Heap {
	h := api.Heap{Keep: keep}
	for _, x := range l {
		h.C = append(h.C, api.Cell{Ref: x})
	}
	return h
}

// bare is a state without volumes and tasks, of n cells without a Ref.
func bare(n, keep int) api.State { return api.State{H: refs(keep, make([]int, n)...), Next: 1} }

// small is a bare state of some of everything.
func small() api.State {
	return api.State{
		H:    refs(2, 1, 0, 65535, 258, 0, 7),
		V:    []api.Vol{{Id: 1, Root: 2}, {Id: 2, Root: -1}, {Id: 258, Root: 5}, {Id: 70000, Root: 0}, {Id: 1<<24 + 3, Root: 2}},
		L:    []complex128{3 + 2i, 1 + 5i, 3},
		Next: 1<<24 + 5,
		Gen:  9,
	}
}

// tasks are n of them, of places below cells.
func tasks(n, cells int) []complex128 {
	l := make([]complex128, n)
	for i := range l {
		l[i] = complex(float64(i*7919%cells), float64(i%6))
	}
	return l
}

// vols are n of them, of roots below cells, with gaps between their numbers.
func vols(n, cells int) []api.Vol {
	var l []api.Vol
	for i := range n {
		l = append(l, api.Vol{Id: 1 + i*i*300, Root: i*17%(cells+1) - 1})
	}
	return l
}

// full is a bare state of n cells, of which each has a Ref, and of as many volumes and tasks as there may be.
func full(n int) api.State {
	s := api.State{H: api.Heap{Keep: n / 2}, V: vols(20, n), L: tasks(500, n), Next: 1000000, Gen: 3}
	for p := range n {
		s.H.C = append(s.H.C, api.Cell{Ref: 1 + p*7919%65535})
	}
	return s
}

// bares are bare states such as books tell.
func bares() []api.State {
	l := []api.State{bare(1, 0), bare(1, 1), bare(2, 1), bare(2000, 0), bare(2000, 2000), bare(257, 256), small(), full(1), full(2), full(255), full(256), full(2000)}
	for _, change := range []func(s *api.State){
		func(s *api.State) { s.V = nil },
		func(s *api.State) { s.V, s.L = nil, nil },
		func(s *api.State) { s.L = nil },
		func(s *api.State) { s.L = slices.Repeat(s.L, 85) },
		func(s *api.State) { s.L = slices.Repeat([]complex128{5i}, 500) },
		func(s *api.State) { s.Next = most },
		func(s *api.State) { s.Next, s.V[4].Id = most, most-1 },
		func(s *api.State) { s.V, s.Next = nil, most },
		func(s *api.State) { s.V, s.Next = nil, 1 },
		func(s *api.State) { s.V, s.Next = s.V[:1], 2 },
		func(s *api.State) { s.V, s.Next = s.V[:2], 3 },
		func(s *api.State) { s.Gen = 0 },
		func(s *api.State) { s.Gen = most },
		func(s *api.State) { s.H.Keep = 0 },
		func(s *api.State) { s.H.Keep = 6 },
		func(s *api.State) { s.H.C[1].Ref = 65535 },
		func(s *api.State) { s.V[0].Root = -1 },
		func(s *api.State) { s.L = []complex128{complex(minus, 3), complex(3, minus), complex(minus, minus)} },
	} {
		s := small()
		change(&s)
		l = append(l, s)
	}
	return l
}

// picker is a row of numbers that look as if they were drawn; the same for the same seed.
func picker(seed int) func(n int) int {
	x := uint64(seed)*2654435761 + 12345
	return func(n int) int {
		x = x*6364136223846793005 + 1442695040888963407
		return int(x>>33) % n
	}
}

// grown are right states: volumes and snapshots that are drawn, changed and dropped beside steps and commits.
func grown() []api.State {
	var l []api.State
	for seed := range 12 {
		pick := picker(seed)
		s, _ := state.New(30+seed*9, pick(5))
		for range 120 {
			id := 1 + pick(s.Next)
			switch do := pick(20); {
			case do < 2:
				s, _, _ = state.Create(s)
			case do < 4:
				s, _, _ = state.Snap(s, id)
			case do < 5:
				s, _ = state.Drop(s, id)
			case do < 14:
				s, _ = state.Put(s, id, pick(40), pick(1000), false)
			case do < 16:
				s, _ = state.Del(s, id, pick(40))
			case do < 18:
				s = state.Step(s)
			default:
				s.H, s.Gen = heap.Settle(s.H), s.Gen+1
			}
			l = append(l, s)
		}
	}
	return l
}

// holds holds the book of a state, and what is parsed of it, against what was worked out apart.
func holds(t *testing.T, s api.State) []byte {
	t.Helper()
	was := deep(s)
	b, e := Print(s)
	if e != api.OK || !bytes.Equal(b, bytesOf(s)) {
		t.Fatalf("Print of %v: %v, %d", s, b, e)
	}
	want := bared(s)
	if got := Bare(s); !same(got, want) || !Same(got, want) {
		t.Fatalf("Bare of %v: %v", s, got)
	}
	if !same(s, was) {
		t.Fatal("what was handed in is changed")
	}
	got, e := Parse(b, s.Gen)
	if e != api.OK || !same(got, want) || !Same(got, want) {
		t.Fatalf("Parse of %v: %v, %d; not %v", b, got, e, want)
	}
	if again, e := Print(got); e != api.OK || !bytes.Equal(again, b) {
		t.Fatalf("%v, and then %v, %d", b, again, e)
	}
	return b
}

// unprinted holds that a state's book is refused.
func unprinted(t *testing.T, s api.State) {
	t.Helper()
	if b, e := Print(s); b != nil || e != api.ErrFull {
		t.Errorf("Print of %v: %v, %d", s, b, e)
	}
}

// nothing: is a state its zero value?
func nothing(s api.State) bool {
	return s.H.C == nil && s.H.Keep == 0 && s.V == nil && s.L == nil && s.Next == 0 && s.Gen == 0
}

// unparsed holds that bytes are refused.
func unparsed(t *testing.T, what string, b []byte, gen int) {
	t.Helper()
	if s, e := Parse(b, gen); e != api.ErrForm || !nothing(s) {
		t.Errorf("%s: Parse of %d bytes, %d: %v, %d", what, len(b), gen, s, e)
	}
}

// The chapter's example: of a new state of 2 cells, Keep 1.
func TestExample(t *testing.T) {
	s, _ := state.New(2, 1)
	b, e := Print(s)
	if e != api.OK || string(b) != "\x01\x00\x00\x00\x00\x00\x00\x01\x00\x02\x00\x00\x00\x00\x00" {
		t.Error(b, e)
	}
}

// P13.1: books' bytes, worked out by hand.
func TestPrint(t *testing.T) {
	for i, x := range []struct {
		s    api.State
		want string
	}{
		{bare(1, 0), "\x01\x00\x00\x00" + "\x00" + "\x00\x00" + "\x00\x00" + "\x01\x00" + "\x00\x00"},
		{bare(1, 1), "\x01\x00\x00\x00" + "\x00" + "\x00\x00" + "\x01\x00" + "\x01\x00" + "\x00\x00"},
		{small(), "\x05\x00\x00\x01" + "\x05" +
			"\x01\x00\x00\x00\x03\x00" + "\x02\x00\x00\x00\x00\x00" + "\x02\x01\x00\x00\x06\x00" + "\x70\x11\x01\x00\x01\x00" + "\x03\x00\x00\x01\x03\x00" +
			"\x03\x00" + "\x03\x00\x02" + "\x01\x00\x05" + "\x03\x00\x00" +
			"\x02\x00" + "\x06\x00" + "\x01\x00" + "\x00\x00" + "\xff\xff" + "\x02\x01" + "\x00\x00" + "\x07\x00"},
		{api.State{H: refs(0, 3), V: []api.Vol{{Id: most - 1, Root: 0}}, Next: most, Gen: most}, "\xff\xff\xff\x7f" + "\x01" + "\xfe\xff\xff\x7f\x01\x00" + "\x00\x00" + "\x00\x00" + "\x01\x00" + "\x03\x00"},
	} {
		if b, e := Print(x.s); e != api.OK || string(b) != x.want {
			t.Errorf("%d: %v, %d", i, b, e)
		}
		if s, e := Parse([]byte(x.want), x.s.Gen); e != api.OK || !same(s, x.s) {
			t.Errorf("%d: %v, %d", i, s, e)
		}
	}
}

// P13.1, P13.2: bare states such as books tell, the smallest and the greatest among them.
func TestBares(t *testing.T) {
	for _, s := range bares() {
		if !tells(s) {
			t.Fatalf("no book tells %v", s)
		}
		holds(t, s)
	}
	if b := holds(t, full(2000)); len(b) != 1631+2*2000 {
		t.Errorf("the longest book has %d bytes", len(b))
	}
	for n := 1; n <= 2000; n += 37 {
		holds(t, bare(n, n))
		holds(t, full(n))
	}
	for n := range 21 {
		s := small()
		s.V = vols(n, 0)
		holds(t, s)
	}
	for n := range 501 {
		s := small()
		s.L = tasks(n, 6)
		holds(t, s)
	}
}

// P13.1, P13.2: right states, with nodes, Pins and tasks.
func TestGrown(t *testing.T) {
	pins, given, shared := 0, 0, 0
	for _, s := range grown() {
		holds(t, s)
		given += len(s.L)
		for _, c := range s.H.C {
			if c.Pin {
				pins++
			}
			if c.Ref > 1 {
				shared++
			}
		}
	}
	if pins < 100 || given < 100 || shared < 100 {
		t.Errorf("just %d Pins, %d tasks, %d cells of more Refs than one", pins, given, shared)
	}
}

// P13.1: a Ref is told up to 65535; ErrFull, and none, where one is above.
func TestPrintFull(t *testing.T) {
	leaf := api.Node{Leaf: true, It: []api.Item{{K: 1, V: 1}}}
	for _, s := range []api.State{bare(1, 0), bare(40, 3), bare(2000, 9), small(), full(2000)} {
		for _, p := range []int{0, len(s.H.C) / 2, len(s.H.C) - 1} {
			for _, n := range []api.Node{{}, leaf} {
				x := deep(s)
				x.H.C[p] = api.Cell{Ref: 65535, N: n}
				holds(t, x)
				for _, ref := range []int{65536, 65537, 65536 + 258, 1<<17 - 1, 1 << 17, 1<<31 - 1} {
					x.H.C[p].Ref = ref
					unprinted(t, x)
				}
			}
		}
	}
}

// P13.1: what is bare has each Ref, and all beside the heap's nodes and Pins.
func TestBare(t *testing.T) {
	s := small()
	s.H.C[0].N = api.Node{Leaf: true, It: []api.Item{{K: 1, V: 2}, {K: 3, V: 4}}}
	s.H.C[1].Pin = true
	s.H.C[2].N = api.Node{It: []api.Item{{K: 1, V: 0}}}
	s.H.C[3].N.Leaf = true
	s.H.C[4] = api.Cell{Ref: -7, Pin: true}
	s.H.C[5].Ref = 1 << 40
	got := Bare(s)
	want := small()
	want.H = refs(2, 1, 0, 65535, 258, -7, 1<<40)
	if !same(got, want) {
		t.Error(got)
	}
	if !same(Bare(got), want) {
		t.Error("what is bare isn't the same without nodes")
	}
	for p, c := range got.H.C {
		if c.N.It != nil {
			t.Errorf("%d: %v", p, c)
		}
	}
	for _, x := range []api.State{{}, {Next: -1, Gen: -1, V: []api.Vol{{Id: -5, Root: 99}}, L: []complex128{-1 - 1i}}, bare(3000, 4000)} {
		if !same(Bare(x), x) {
			t.Errorf("%v: %v", x, Bare(x))
		}
	}
}

// noded is a state in which each kind of thing stands at some place.
func noded() api.State {
	s := small()
	s.H.C[0].N = api.Node{Leaf: true, It: []api.Item{{K: 1, V: 2}, {K: 3, V: 4}}}
	s.H.C[3].N = api.Node{It: []api.Item{{K: 1, V: 0}}}
	s.H.C[4].Pin = true
	s.L = append(s.L, 0, 1i, 2)
	return s
}

// P13.1: a state isn't the same as one that is other in one thing.
func TestNotSame(t *testing.T) {
	for i, change := range []func(s *api.State){
		func(s *api.State) { s.Next++ },
		func(s *api.State) { s.Next = -s.Next },
		func(s *api.State) { s.Gen++ },
		func(s *api.State) { s.Gen = 0 },
		func(s *api.State) { s.H.Keep++ },
		func(s *api.State) { s.H.C[0].Ref++ },
		func(s *api.State) { s.H.C[5].Ref = 0 },
		func(s *api.State) { s.H.C[2].Ref += 65536 },
		func(s *api.State) { s.H.C[1].Pin = true },
		func(s *api.State) { s.H.C[4].Pin = false },
		func(s *api.State) { s.H.C[5].Pin = true },
		func(s *api.State) { s.H.C[0].N.Leaf = false },
		func(s *api.State) { s.H.C[3].N.Leaf = true },
		func(s *api.State) { s.H.C[5].N.Leaf = true },
		func(s *api.State) { s.H.C[0].N.It[0].K = 0 },
		func(s *api.State) { s.H.C[0].N.It[1].V = 5 },
		func(s *api.State) { s.H.C[0].N.It = s.H.C[0].N.It[:1] },
		func(s *api.State) { s.H.C[3].N.It = nil },
		func(s *api.State) { s.H.C[3].N.It[0].V = 5 },
		func(s *api.State) { s.H.C[5].N.It = []api.Item{{}} },
		func(s *api.State) { s.H.C = s.H.C[:5] },
		func(s *api.State) { s.H.C = append(s.H.C, api.Cell{}) },
		func(s *api.State) { s.H.C = nil },
		func(s *api.State) { s.H.C[4], s.H.C[5] = s.H.C[5], s.H.C[4] },
		func(s *api.State) { s.V[0].Id = 0 },
		func(s *api.State) { s.V[4].Id++ },
		func(s *api.State) { s.V[1].Root = 0 },
		func(s *api.State) { s.V[4].Root = -1 },
		func(s *api.State) { s.V[0], s.V[1] = s.V[1], s.V[0] },
		func(s *api.State) { s.V = s.V[:4] },
		func(s *api.State) { s.V = s.V[1:] },
		func(s *api.State) { s.V = nil },
		func(s *api.State) { s.V = append(s.V, api.Vol{}) },
		func(s *api.State) { s.L[0]++ },
		func(s *api.State) { s.L[0] += 1i },
		func(s *api.State) { s.L[5] = 2i },
		func(s *api.State) { s.L[0], s.L[1] = s.L[1], s.L[0] },
		func(s *api.State) { s.L = s.L[:5] },
		func(s *api.State) { s.L = s.L[1:] },
		func(s *api.State) { s.L = nil },
		func(s *api.State) { s.L = append(s.L, 0) },
	} {
		s := deep(noded())
		change(&s)
		if Same(s, noded()) || Same(noded(), s) {
			t.Errorf("%d: the same", i)
		}
		if !Same(s, deep(s)) {
			t.Errorf("%d: not the same as its copy", i)
		}
	}
}

// P13.1: any two states, right or not, are the same if all of them is, and then alone.
func TestSame(t *testing.T) {
	odd := api.State{H: refs(-9, -1, 1<<40), V: []api.Vol{{Id: -1, Root: -5}, {Id: -1, Root: 7}}, L: []complex128{-1 - 1i, 0.5i, complex(1e300, math.Inf(1))}, Next: -1, Gen: -1}
	odd.H.C[0].N.It = []api.Item{{K: 5, V: -5}, {K: 5, V: -5}}
	l := []api.State{{}, odd, noded(), bare(2001, 0), {H: refs(0)}, {Next: 1}, {Gen: 1}, {V: make([]api.Vol, 1)}, {L: make([]complex128, 1)}, {H: refs(0, 0)}}
	l = append(l, bares()...)
	for i, a := range l {
		for j, b := range l {
			if Same(a, b) != same(a, b) {
				t.Errorf("%d, %d: %v", i, j, Same(a, b))
			}
		}
	}
	for _, s := range grown() {
		if !Same(s, deep(s)) || Same(s, Bare(s)) != same(s, bared(s)) {
			t.Fatalf("%v and its copy", s)
		}
	}
}

// P13.1: noughts are the same, whatever their signs, and lists without elements.
func TestSameNoughts(t *testing.T) {
	a, b := small(), small()
	a.L = []complex128{complex(0, 3), complex(3, 0), complex(0, 0), complex(minus, minus)}
	b.L = []complex128{complex(minus, 3), complex(3, minus), complex(minus, minus), complex(0, 0)}
	if !Same(a, b) || !Same(b, a) {
		t.Error("noughts of two signs")
	}
	p, _ := Print(a)
	if q, e := Print(b); e != api.OK || !bytes.Equal(p, q) {
		t.Error("noughts of two signs are told otherwise")
	}
	x := api.State{H: refs(0, 1)}
	y := deep(x)
	y.V, y.L, y.H.C[0].N.It = []api.Vol{}, []complex128{}, []api.Item{}
	if !Same(x, y) || !Same(y, x) || !Same(api.State{}, api.State{H: api.Heap{C: []api.Cell{}}}) {
		t.Error("lists without elements")
	}
}

// P13.2: ErrForm, and none, where a byte is missing, or there is one more.
func TestParseLength(t *testing.T) {
	for _, s := range bares() {
		b := bytesOf(s)
		step := 1 + len(b)/300
		for n := 0; n < len(b); n += step {
			unparsed(t, "short", b[:n], s.Gen)
			// What is behind some bytes may be a book of its own.
			agrees(t, b[n+1:])
		}
		unparsed(t, "a byte less", b[:len(b)-1], s.Gen)
		unparsed(t, "two bytes less", b[:len(b)-2], s.Gen)
		for _, more := range [][]byte{{0}, {1}, {0, 0}, {255, 255}, make([]byte, 40)} {
			unparsed(t, "more behind", slices.Concat(b, more), s.Gen)
		}
		unparsed(t, "a byte ahead", slices.Concat([]byte{0}, b), s.Gen)
		unparsed(t, "twice", slices.Concat(b, b), s.Gen)
	}
	for _, b := range [][]byte{nil, {}, {0}, {1}, {1, 0, 0, 0}, {1, 0, 0, 0, 255}, {1, 0, 0, 0, 0}, {1, 0, 0, 0, 0, 255, 255}, {1, 0, 0, 0, 0, 0, 0, 0, 0, 255, 255}} {
		unparsed(t, "none", b, 0)
	}
	// What lies behind a list's end is no part of it.
	b := bytesOf(small())
	unparsed(t, "spare bytes", b[:len(b)-1], 0)
}

// P13.2: the state is of the Gen that is asked for, and of none beyond Most.
func TestParseGen(t *testing.T) {
	for _, s := range []api.State{bare(1, 0), small(), full(2000)} {
		b := bytesOf(s)
		for _, s.Gen = range []int{0, 1, 2, 258, 65536, 1 << 30, most - 1, most} {
			if got, e := Parse(b, s.Gen); e != api.OK || !same(got, s) || got.Gen != s.Gen {
				t.Errorf("Gen %d: %v, %d", s.Gen, got, e)
			}
		}
		for _, gen := range append([]int{-1}, far...) {
			unparsed(t, "Gen", b, gen)
		}
	}
}

// P13.2: the edges of what books tell, each held against its words: told, or none's.
func TestParseEdges(t *testing.T) {
	for i, x := range []struct {
		change func(s *api.State)
		told   bool
	}{
		{func(s *api.State) { s.V, s.Next = nil, 0 }, false},
		{func(s *api.State) { s.V, s.Next = nil, 1 }, true},
		{func(s *api.State) { s.Next = 0 }, false},
		{func(s *api.State) { s.Next = most }, true},
		{func(s *api.State) { s.Next = most + 1 }, false},
		{func(s *api.State) { s.Next = 1<<32 - 1 }, false},
		{func(s *api.State) { s.V, s.Next = nil, most }, true},
		{func(s *api.State) { s.V, s.Next = nil, most+1 }, false},
		{func(s *api.State) { s.Next = s.V[4].Id + 1 }, true},
		{func(s *api.State) { s.Next = s.V[4].Id }, false},
		{func(s *api.State) { s.Next = s.V[3].Id + 1 }, false},
		{func(s *api.State) { s.V[4].Id = s.Next - 1 }, true},
		{func(s *api.State) { s.V[4].Id = s.Next }, false},
		{func(s *api.State) { s.V[4].Id = s.Next + 1 }, false},
		{func(s *api.State) { s.V[4].Id = 1<<32 - 1 }, false},
		{func(s *api.State) { s.Next, s.V[4].Id = most, most }, false},
		{func(s *api.State) { s.Next, s.V[4].Id = most, most-1 }, true},
		{func(s *api.State) { s.V[0].Id = 0 }, false},
		{func(s *api.State) { s.V[0].Id = 2 }, false},
		{func(s *api.State) { s.V[1].Id = 1 }, false},
		{func(s *api.State) { s.V[1].Id = 257 }, true},
		{func(s *api.State) { s.V[1].Id = 258 }, false},
		{func(s *api.State) { s.V[3].Id = s.V[4].Id }, false},
		{func(s *api.State) { s.V[3], s.V[4] = s.V[4], s.V[3] }, false},
		{func(s *api.State) { s.V = vols(20, 0) }, true},
		{func(s *api.State) { s.V = vols(21, 0) }, false},
		{func(s *api.State) { s.V = vols(100, 0) }, false},
		{func(s *api.State) { s.V = vols(230, 0) }, false},
		{func(s *api.State) { s.V[0].Root = -1 }, true},
		{func(s *api.State) { s.V[0].Root = 0 }, true},
		{func(s *api.State) { s.V[0].Root = 1 }, false},
		{func(s *api.State) { s.V[4].Root = 4 }, false},
		{func(s *api.State) { s.V[4].Root = 5 }, true},
		{func(s *api.State) { s.V[0].Root = 6 }, false},
		{func(s *api.State) { s.V[4].Root = 7 }, false},
		{func(s *api.State) { s.V[4].Root = 2000 }, false},
		{func(s *api.State) { s.V[4].Root = 65534 }, false},
		{func(s *api.State) { s.H.C[5].Ref = 0 }, false},
		{func(s *api.State) { s.L = nil }, true},
		{func(s *api.State) { s.L[0] = 5 }, true},
		{func(s *api.State) { s.L[0] = 6 }, false},
		{func(s *api.State) { s.L[2] = 7 + 5i }, false},
		{func(s *api.State) { s.L[2] = 1999 }, false},
		{func(s *api.State) { s.L[1] = 2000 }, false},
		{func(s *api.State) { s.L[1] = 65535 }, false},
		{func(s *api.State) { s.L[2] = 5 + 5i }, true},
		{func(s *api.State) { s.L[2] = 5 + 6i }, false},
		{func(s *api.State) { s.L[0] = 255i }, false},
		{func(s *api.State) { s.L = tasks(500, 6) }, true},
		{func(s *api.State) { s.L = tasks(501, 6) }, false},
		{func(s *api.State) { s.L = tasks(65535, 6) }, false},
		{func(s *api.State) { s.H.Keep = 0 }, true},
		{func(s *api.State) { s.H.Keep = 6 }, true},
		{func(s *api.State) { s.H.Keep = 7 }, false},
		{func(s *api.State) { s.H.Keep = 65535 }, false},
		{func(s *api.State) { s.V, s.L, s.H = nil, nil, refs(0) }, false},
		{func(s *api.State) { s.V, s.L, s.H = nil, nil, refs(0, 0) }, true},
		{func(s *api.State) { s.V, s.L, s.H = nil, nil, refs(1, 0) }, true},
		{func(s *api.State) { s.V, s.L, s.H = nil, nil, refs(2, 0) }, false},
		{func(s *api.State) { s.V = nil; s.H = refs(6, make([]int, 5)...) }, false},
		{func(s *api.State) { s.H.C = append(s.H.C, make([]api.Cell, 1994)...) }, true},
		{func(s *api.State) { s.H.C = append(s.H.C, make([]api.Cell, 1995)...) }, false},
		{func(s *api.State) { s.H.C = append(s.H.C, make([]api.Cell, 60000)...) }, false},
		{func(s *api.State) { s.H.C = append(s.H.C, make([]api.Cell, 1994)...); s.H.Keep = 2000 }, true},
		{func(s *api.State) { s.H.C = append(s.H.C, make([]api.Cell, 1994)...); s.H.Keep = 2001 }, false},
		{func(s *api.State) { s.H.C = append(s.H.C, make([]api.Cell, 1994)...); s.V[4].Root, s.L[0] = 1999, 1999 }, false},
		{func(s *api.State) { s.H.C = append(s.H.C, make([]api.Cell, 1994)...); s.L[0] = 1999 + 5i }, true},
		{func(s *api.State) { s.H.C = append(s.H.C, full(1994).H.C...); s.V[4].Root, s.L[0] = 1999, 1999 }, true},
		{func(s *api.State) { s.H.C = append(s.H.C, full(1994).H.C...); s.V[4].Root = 2000 }, false},
		{func(s *api.State) { s.H.C[1].Ref = 1 }, true},
		{func(s *api.State) { s.H.C[5].Ref = 65535 }, true},
	} {
		s := small()
		x.change(&s)
		if tells(s) != x.told {
			t.Fatalf("%d: what tells is off", i)
		}
		if !x.told {
			unparsed(t, "edge", bytesOf(s), 9)
			continue
		}
		if got, e := Parse(bytesOf(s), 9); e != api.OK || !same(got, s) {
			t.Errorf("%d: %v, %d", i, got, e)
		}
	}
}

// agrees holds Parse against what was worked out apart; what is parsed has these bytes (P13.3). Is it a book?
func agrees(t *testing.T, b []byte) bool {
	t.Helper()
	was := bytes.Clone(b)
	got, e := Parse(b, 5)
	want, f := read(b, 5)
	if e != f || !same(got, want) || e != api.OK && !nothing(got) {
		t.Fatalf("Parse of %v: %v, %d; not %v, %d", b, got, e, want, f)
	}
	if !bytes.Equal(b, was) {
		t.Fatal("what was handed in is changed")
	}
	if e != api.OK {
		return false
	}
	if again, e := Print(got); e != api.OK || !bytes.Equal(again, b) {
		t.Fatalf("%v, and then %v, %d", b, again, e)
	}
	return true
}

// P13.2, P13.3: of each byte of some books each other value; what is parsed has just these bytes.
func TestOtherByte(t *testing.T) {
	right := grown()
	l := []api.State{bare(1, 0), bare(2, 1), small(), bare(20, 20), right[100], right[230]}
	told := [2]int{}
	for _, s := range l {
		b := holds(t, s)
		for at := range b {
			for x := range 256 {
				c := bytes.Clone(b)
				c[at] = byte(x)
				if agrees(t, c) {
					told[1]++
				} else {
					told[0]++
				}
			}
		}
	}
	if told[0] < 10000 || told[1] < 10000 {
		t.Errorf("none's and told: %v", told)
	}
}

// P13.2, P13.3: bytes that are drawn, or spoilt at some places, or taken away, or put in.
func TestDrawnBytes(t *testing.T) {
	told := [2]int{}
	all := bares()
	for seed := range 20000 {
		pick := picker(seed)
		b := bytesOf(all[pick(len(all))])
		if len(b) > 2000 {
			continue
		}
		for range 1 + pick(3) {
			at := pick(len(b))
			switch pick(6) {
			case 0:
				b = slices.Delete(b, at, min(at+1+pick(3), len(b)))
			case 1:
				b = slices.Insert(b, at, le(pick(1<<24), 1+pick(3))...)
			default:
				b[at] = byte(pick(256) >> pick(8))
			}
			if len(b) == 0 {
				break
			}
		}
		if agrees(t, b) {
			told[1]++
		} else {
			told[0]++
		}
	}
	if told[0] < 1000 || told[1] < 1000 {
		t.Errorf("none's and told: %v", told)
	}
}

// R1: no call panics, and all end, at states that are neither right nor such as books tell; Print refuses what a book can't tell.
func TestEnds(t *testing.T) {
	odd := []float64{math.NaN(), math.Inf(1), math.Inf(-1), -1, 0.5, 6, 2000, 1 << 63, 1e300}
	changes := []func(s *api.State){
		func(s *api.State) { *s = api.State{} },
		func(s *api.State) { s.H.C = nil },
		func(s *api.State) { s.H.C = make([]api.Cell, 2001) },
		func(s *api.State) { s.H.C = make([]api.Cell, 70000) },
		func(s *api.State) { s.V = vols(21, 0) },
		func(s *api.State) { s.V = vols(300, 0) },
		func(s *api.State) { s.L = tasks(501, 6) },
		func(s *api.State) { s.L = tasks(70000, 6) },
		func(s *api.State) { s.V[4].Id = s.V[3].Id },
		func(s *api.State) { s.V[0].Root = 1 },
		func(s *api.State) { s.V[0].Root = 6 },
		func(s *api.State) { s.H.Keep = 7 },
		func(s *api.State) { s.Next = 1 },
	}
	for _, x := range append([]int{-2}, far...) {
		changes = append(changes,
			func(s *api.State) { s.Next = x },
			func(s *api.State) { s.Gen = x },
			func(s *api.State) { s.H.Keep = x },
			func(s *api.State) { s.H.C[1].Ref = x },
			func(s *api.State) { s.V[4].Id = x },
			func(s *api.State) { s.V[4].Root = x },
		)
	}
	for _, x := range odd {
		changes = append(changes,
			func(s *api.State) { s.L[2] = complex(x, 0) },
			func(s *api.State) { s.L[0] = complex(0, x) },
		)
	}
	for i, change := range changes {
		s := small()
		change(&s)
		if b, e := Print(s); b != nil || e != api.ErrFull {
			t.Errorf("%d: Print: %d bytes, %d", i, len(b), e)
		}
		Bare(s)
		Same(s, small())
		Same(small(), s)
	}
}

// R3: what is handed in isn't written into, not even behind its end.
func TestHandedIn(t *testing.T) {
	s := noded()
	cells := append(slices.Clone(s.H.C), api.Cell{Ref: 77, Pin: true}, api.Cell{Ref: 78})
	vols := append(slices.Clone(s.V), api.Vol{Id: -7, Root: -7}, api.Vol{Id: -8, Root: -8})
	tasks := append(slices.Clone(s.L), -7, -8)
	whole := deep(api.State{H: api.Heap{C: cells}, V: vols, L: tasks})
	s.H.C, s.V, s.L = cells[:len(cells)-2], vols[:len(vols)-2], tasks[:len(tasks)-2]
	b := slices.Concat(bytesOf(s), []byte("behind"))
	was := bytes.Clone(b)
	for n := range len(b) {
		Parse(b[:n], 3)
	}
	Print(s)
	Same(s, s)
	x := Bare(s)
	_, _, _ = append(x.H.C, api.Cell{}), append(x.V, api.Vol{}), append(x.L, 0)
	if !same(api.State{H: api.Heap{C: cells}, V: vols, L: tasks}, whole) || !bytes.Equal(b, was) {
		t.Error("what was handed in is changed")
	}
}

// spoil writes into all that a state has.
func spoil(s api.State) {
	for p := range s.H.C {
		s.H.C[p] = api.Cell{Ref: -1, Pin: true}
	}
	clear(s.V)
	for i := range s.L {
		s.L[i] = -1
	}
}

// R3: who writes into an answer changes neither what was handed in nor another answer.
func TestAnswersAreTheirOwn(t *testing.T) {
	s := noded()
	want := bytesOf(s)
	one, _ := Print(s)
	two, _ := Print(s)
	clear(one)
	if !bytes.Equal(two, want) {
		t.Error("two books share memory")
	}
	x, y := Bare(s), Bare(s)
	spoil(x)
	if !same(s, noded()) || !same(y, bared(s)) {
		t.Error("what is bare shares memory")
	}
	p, _ := Parse(two, 9)
	q, _ := Parse(two, 9)
	spoil(p)
	if !bytes.Equal(two, want) || !same(q, y) {
		t.Error("what is parsed shares memory")
	}
	clear(two)
	spoil(s)
	if !same(q, bared(noded())) || !same(y, bared(noded())) {
		t.Error("an answer hangs on what it came of")
	}
}

// R4: the same arguments, the same answers.
func TestSameAnswers(t *testing.T) {
	b := bytesOf(noded())
	for range 3 {
		Print(api.State{})
		Parse(b[:7], 1)
		Parse(nil, -1)
		if holds(t, noded()); !agrees(t, b) || !Same(noded(), noded()) {
			t.Fatal("another answer")
		}
	}
}
