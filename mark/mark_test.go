package mark_test

import (
	"maps"
	"math"
	"slices"
	"testing"

	"spinney/api"
	"spinney/build"
	"spinney/compose"
	"spinney/count"
	"spinney/logic"
	"spinney/mark"
	"spinney/nodes"
	"spinney/quant"
	"spinney/refs"
	"spinney/rel"
	"spinney/truth"
)

// great are handles that no store gives out: from 2^28 on, those among them of which the lowest 28 bits are a constant's or a node's.
var great = []api.Handle{1 << 28, 1<<28 + 1, 1<<28 + 2, 1<<28 + 3, 1 << 29, 1<<31 - 1, 1 << 31, 1<<31 + 2, math.MaxUint32 - 1, math.MaxUint32}

// store makes a store.
func store(t *testing.T, vars, room int) *nodes.Store {
	t.Helper()
	s, err := nodes.New(vars, room)
	if err != api.OK {
		t.Fatalf("New(%d, %d): %v", vars, room, err)
	}
	return s
}

// triple is what an inner node is made of.
type triple struct {
	level     int
	low, high api.Handle
}

// of is what s tells of a handle.
func of(s *nodes.Store, h api.Handle) triple { return triple{s.Level(h), s.Low(h), s.High(h)} }

// held is all inner nodes of s.
func held(s *nodes.Store) map[api.Handle]triple {
	m := map[api.Handle]triple{}
	for _, h := range s.All() {
		m[h] = of(s, h)
	}
	return m
}

// same fails unless s holds just the nodes that it held.
func same(t *testing.T, s *nodes.Store, was map[api.Handle]triple) {
	t.Helper()
	if s.Len() != len(was) || !maps.Equal(held(s), was) {
		t.Fatalf("%d nodes: %v, there were %v", s.Len(), held(s), was)
	}
}

// mk makes a node.
func mk(t *testing.T, s *nodes.Store, k triple) api.Handle {
	t.Helper()
	h, err := s.Mk(k.level, k.low, k.high)
	if err != api.OK {
		t.Fatalf("Mk%v: %v, %d nodes in room for %d", k, err, s.Len(), s.Room())
	}
	return h
}

// laid makes the node of f by Mk alone.
func laid(t *testing.T, s *nodes.Store, f api.Func) api.Handle {
	t.Helper()
	var down func(f api.Func, level int) api.Handle
	down = func(f api.Func, level int) api.Handle {
		if level == s.Vars() {
			return api.Handle(f[0] & 1)
		}
		v := s.Order().Var(level)
		return mk(t, s, triple{level, down(truth.Fix(f, v, false), level+1), down(truth.Fix(f, v, true), level+1)})
	}
	return down(f, 0)
}

// laidAll is laid of each of l.
func laidAll(t *testing.T, s *nodes.Store, l []api.Func) []api.Handle {
	t.Helper()
	var handles []api.Handle
	for _, f := range l {
		handles = append(handles, laid(t, s, f))
	}
	return handles
}

// functions are the tables of all nodes of s, joined from the constants up.
func functions(s *nodes.Store) map[api.Handle]api.Func {
	m := map[api.Handle]api.Func{0: truth.Const(false), 1: truth.Const(true)}
	var of func(h api.Handle) api.Func
	of = func(h api.Handle) api.Func {
		if _, there := m[h]; !there {
			m[h] = truth.Ite(truth.Var(s.Order().Var(s.Level(h))), of(s.High(h)), of(s.Low(h)))
		}
		return m[h]
	}
	for _, h := range s.All() {
		of(h)
	}
	return m
}

// reached is the inner nodes that Low and High reach from l, rising.
func reached(s *nodes.Store, l []api.Handle) []api.Handle {
	done := map[api.Handle]bool{}
	for work := slices.Clone(l); len(work) > 0; work = work[1:] {
		if h := work[0]; h > 1 && !done[h] {
			done[h] = true
			work = append(work, s.Low(h), s.High(h))
		}
	}
	return slices.Sorted(maps.Keys(done))
}

// draw is a row of numbers without a pattern.
type draw uint64

func (d *draw) next(below int) int {
	*d = *d*6364136223846793005 + 1442695040888963407
	return int(uint64(*d) >> 33 % uint64(below))
}

// function draws a function of so many variables: true often or seldom, hanging on all variables or on some.
func (d *draw) function(vars int) api.Func {
	var f api.Func
	often := d.next(17)
	for x := range 1 << vars {
		if d.next(16) < often {
			f[x/64] |= 1 << (x % 64)
		}
	}
	f = truth.Restrict(f, uint8(255<<vars), 0)
	if d.next(3) == 0 {
		f = truth.Restrict(f, uint8(d.next(256)), uint8(d.next(256)))
	}
	return f
}

// functions draws so many of them.
func (d *draw) functions(vars, many int) []api.Func {
	var l []api.Func
	for range many {
		l = append(l, d.function(vars))
	}
	return l
}

// some draws some of l, about one of so many.
func (d *draw) some(l []api.Handle, of int) []api.Handle {
	var some []api.Handle
	for _, h := range l {
		if d.next(of) == 0 {
			some = append(some, h)
		}
	}
	return some
}

// all are the nodes of s, the constants among them.
func all(s *nodes.Store) []api.Handle { return append([]api.Handle{0, 1}, s.All()...) }

// never is a handle above all that s has given.
func never(s *nodes.Store) api.Handle { return slices.Max(all(s)) + 1 }

// lent hands a list over with spare room behind it, and fails unless both are as they were then. A nil list is handed over as such.
func lent(t *testing.T, l []api.Handle, do func([]api.Handle)) {
	t.Helper()
	if l == nil {
		do(nil)
		return
	}
	with := append(slices.Clone(l), 77, 77, 77)
	was := slices.Clone(with)
	do(with[:len(l)])
	if !slices.Equal(with, was) {
		t.Fatalf("the list %d is %d behind the call", was, with)
	}
}

// reaches fails unless Reach tells what is reached from the roots, again too, and leaves the list and the store as they were. It tells that.
func reaches(t *testing.T, s *nodes.Store, roots []api.Handle) []api.Handle {
	t.Helper()
	was, want := held(s), reached(s, roots)
	for range 2 {
		lent(t, roots, func(l []api.Handle) {
			if got, err := mark.Reach(s, l); !slices.Equal(got, want) || err != api.OK {
				t.Fatalf("Reach(%d): %d, %v, want %d", l, got, err, want)
			}
		})
	}
	same(t, s, was)
	return want
}

// keeps fails unless do, whose roots these are, answers how many nodes weren't reached from them, and just these are gone behind it: the others have their handles, levels, lows, highs and functions.
func keeps(t *testing.T, s *nodes.Store, roots []api.Handle, do func() (int, api.Errno)) int {
	t.Helper()
	was, funcs, want, order := held(s), functions(s), reached(s, roots), s.Order().All()
	vars, room := s.Vars(), s.Room()
	n, err := do()
	if n != len(was)-len(want) || err != api.OK {
		t.Fatalf("%d gone, %v, want %d of %d", n, err, len(was)-len(want), len(was))
	}
	if s.Len() != len(want) || !slices.Equal(s.All(), want) {
		t.Fatalf("Len %d, All %d, want %d", s.Len(), s.All(), want)
	}
	if s.Vars() != vars || s.Room() != room || !slices.Equal(s.Order().All(), order) {
		t.Fatalf("a store of %d variables and room for %d, in order %d", s.Vars(), s.Room(), s.Order().All())
	}
	for h, k := range was {
		stays := slices.Contains(want, h)
		if !stays {
			k = triple{-1, 0, 0}
		}
		if s.Is(h) != stays || of(s, h) != k {
			t.Fatalf("node %d: %t, %v, want %t, %v", h, s.Is(h), of(s, h), stays, k)
		}
	}
	for _, h := range []api.Handle{0, 1} {
		if !s.Is(h) || of(s, h) != (triple{vars, h, h}) {
			t.Fatalf("the constant %d: %v", h, of(s, h))
		}
	}
	for h, f := range functions(s) {
		if f != funcs[h] {
			t.Fatalf("node %d is %x, was %x", h, f, funcs[h])
		}
	}
	return n
}

// collects is keeps of a Collect, which leaves the list as it was.
func collects(t *testing.T, s *nodes.Store, roots []api.Handle) int {
	t.Helper()
	return keeps(t, s, roots, func() (n int, err api.Errno) {
		lent(t, roots, func(l []api.Handle) { n, err = mark.Collect(s, l) })
		return n, err
	})
}

// refuses fails unless Reach and Collect refuse the list, with nothing beside the error, and leave it and the store as they were.
func refuses(t *testing.T, s *nodes.Store, roots []api.Handle) {
	t.Helper()
	was := held(s)
	lent(t, roots, func(l []api.Handle) {
		if got, err := mark.Reach(s, l); len(got) != 0 || err != api.ErrNode {
			t.Fatalf("Reach(%d): %d, %v", l, got, err)
		}
	})
	lent(t, roots, func(l []api.Handle) {
		if n, err := mark.Collect(s, l); n != 0 || err != api.ErrNode {
			t.Fatalf("Collect(%d): %d, %v", l, n, err)
		}
	})
	same(t, s, was)
}

// once fails unless all nodes of s are unlike one another, by level, low and high and by function, none has low and high alike, all children are nodes that lie deeper, and Mk of each tells its handle.
func once(t *testing.T, s *nodes.Store) {
	t.Helper()
	triples := map[triple]api.Handle{}
	for h, k := range held(s) {
		if other, there := triples[k]; there || k.low == k.high {
			t.Fatalf("node %d is %v, and so is %d", h, k, other)
		}
		triples[k] = h
		if !s.Is(k.low) || !s.Is(k.high) || min(s.Level(k.low), s.Level(k.high)) <= k.level {
			t.Fatalf("node %d is %v, on children of levels %d and %d", h, k, s.Level(k.low), s.Level(k.high))
		}
	}
	funcs := map[api.Func]api.Handle{}
	for h, f := range functions(s) {
		if other, there := funcs[f]; there {
			t.Fatalf("nodes %d and %d are one function", other, h)
		}
		funcs[f] = h
	}
	for k, h := range triples {
		if got := mk(t, s, k); got != h {
			t.Fatalf("Mk%v: %d, but it is %d", k, got, h)
		}
	}
	if s.Len() != len(triples) {
		t.Fatalf("Len %d of %d nodes", s.Len(), len(triples))
	}
}

// fill makes nodes of those that are there, from the deepest level up, until the store is full.
func fill(t *testing.T, s *nodes.Store) {
	t.Helper()
	for level := s.Vars() - 1; level >= 0; level-- {
		var deeper []api.Handle
		for _, h := range all(s) {
			if s.Level(h) > level {
				deeper = append(deeper, h)
			}
		}
		for _, low := range deeper {
			for _, high := range deeper {
				if s.Len() == s.Room() {
					return
				}
				mk(t, s, triple{level, low, high})
			}
		}
	}
	t.Fatalf("%d nodes, want %d", s.Len(), s.Room())
}

// three is a store of three variables: a alone is at the last level, b and c share it, d is beside them, and the top t is above b and c.
type three struct {
	s             *nodes.Store
	a, b, c, d, t api.Handle
}

func byHand(t *testing.T, room int) three {
	t.Helper()
	s := store(t, 3, room)
	a := mk(t, s, triple{2, 0, 1})
	b := mk(t, s, triple{1, a, 1})
	c := mk(t, s, triple{1, 0, a})
	d := mk(t, s, triple{2, 1, 0})
	return three{s, a, b, c, d, mk(t, s, triple{0, b, c})}
}

// P17.2: the chapter's example: behind a Collect of no roots Len is 0.
func TestExample(t *testing.T) {
	for _, roots := range [][]api.Handle{nil, {}} {
		g := byHand(t, 10)
		n, err := mark.Collect(g.s, roots)
		if n != 5 || err != api.OK || g.s.Len() != 0 {
			t.Errorf("%d gone, %v, Len %d", n, err, g.s.Len())
		}
	}
}

// P17.1: by hand: no roots, constants, one node, several that share nodes, one twice, in any order, all of them.
func TestReachByHand(t *testing.T) {
	g := byHand(t, 10)
	for _, e := range []struct{ roots, want []api.Handle }{
		{nil, nil},
		{[]api.Handle{}, nil},
		{[]api.Handle{0}, nil},
		{[]api.Handle{1}, nil},
		{[]api.Handle{1, 0, 0, 1}, nil},
		{[]api.Handle{g.a}, []api.Handle{g.a}},
		{[]api.Handle{g.b}, []api.Handle{g.a, g.b}},
		{[]api.Handle{g.c}, []api.Handle{g.a, g.c}},
		{[]api.Handle{g.d}, []api.Handle{g.d}},
		{[]api.Handle{g.t}, []api.Handle{g.a, g.b, g.c, g.t}},
		{[]api.Handle{g.c, g.b}, []api.Handle{g.a, g.b, g.c}},
		{[]api.Handle{g.b, g.a}, []api.Handle{g.a, g.b}},
		{[]api.Handle{g.a, g.b}, []api.Handle{g.a, g.b}},
		{[]api.Handle{g.b, g.b}, []api.Handle{g.a, g.b}},
		{[]api.Handle{g.d, g.b, g.d, g.a, g.b}, []api.Handle{g.a, g.b, g.d}},
		{[]api.Handle{1, g.d, 0, g.a, 1}, []api.Handle{g.a, g.d}},
		{[]api.Handle{g.t, g.d}, []api.Handle{g.a, g.b, g.c, g.d, g.t}},
		{[]api.Handle{g.d, g.c, g.t, g.b, g.a}, []api.Handle{g.a, g.b, g.c, g.d, g.t}},
	} {
		slices.Sort(e.want)
		if got, err := mark.Reach(g.s, e.roots); !slices.Equal(got, e.want) || err != api.OK {
			t.Errorf("Reach(%d): %d, %v, want %d", e.roots, got, err, e.want)
		}
		reaches(t, g.s, e.roots)
	}
}

// P17.1: drawn nodes of drawn functions: as many as count's Size and truth's tell, and on each level as many as count's Levels; of all nodes all.
func TestReachDrawn(t *testing.T) {
	for vars := 1; vars <= api.MaxVars; vars++ {
		d := draw(vars)
		for round := range 30 {
			s := store(t, vars, api.MaxSlots)
			s.Cached(round%2 == 0)
			laidAll(t, s, d.functions(vars, 2))
			fs := d.functions(vars, round%5)
			roots := laidAll(t, s, fs)
			l := reaches(t, s, roots)
			if len(l) != truth.Size(fs, s.Order().All()) {
				t.Fatalf("%d reached, truth's %d", len(l), truth.Size(fs, s.Order().All()))
			}
			sized(t, s, roots, l)
			few := d.some(all(s), 1+d.next(9))
			sized(t, s, few, reaches(t, s, few))
			if l := reaches(t, s, s.All()); !slices.Equal(l, s.All()) {
				t.Fatalf("of all nodes %d, want %d", l, s.All())
			}
			for _, h := range s.All() {
				if l, err := mark.Reach(s, []api.Handle{h}); !slices.Contains(l, h) || err != api.OK {
					t.Fatalf("Reach of %d: %d, %v", h, l, err)
				}
			}
		}
	}
}

// sized fails unless layer 14 tells as many nodes of the roots as l has, in all and on each level.
func sized(t *testing.T, s *nodes.Store, roots, l []api.Handle) {
	t.Helper()
	by := make([]int, s.Vars())
	for _, h := range l {
		by[s.Level(h)]++
	}
	size, first := count.Size(s, roots)
	levels, second := count.Levels(s, roots)
	if size != len(l) || !slices.Equal(levels, by) || first+second != api.OK {
		t.Fatalf("%d reached, on levels %d; Size %d, Levels %d", len(l), by, size, levels)
	}
}

// P17.1: handles rise along the list, also where nodes above have lesser handles than those that they reach, as they may have behind a collection.
func TestReachRises(t *testing.T) {
	d := draw(3)
	for vars := 1; vars <= api.MaxVars; vars++ {
		s := store(t, vars, 3000)
		for range 12 {
			laidAll(t, s, d.functions(vars, 4))
			collects(t, s, d.some(s.All(), 5))
			l := reaches(t, s, d.some(s.All(), 3))
			for i := 1; i < len(l); i++ {
				if l[i-1] >= l[i] {
					t.Fatalf("%d doesn't rise", l)
				}
			}
			slices.Reverse(l)
			reaches(t, s, l)
		}
	}
}

// P17.1, and DOC.md's rule 3: Reach answers new memory, its spare room too: neither the roots nor an earlier answer nor the store is touched by what is done with it, nor it by a collection.
func TestReachIsNew(t *testing.T) {
	for _, vars := range []int{1, 3, api.MaxVars} {
		d := draw(vars + 5)
		s := store(t, vars, 3000)
		laidAll(t, s, d.functions(vars, 4))
		for _, roots := range [][]api.Handle{s.All(), d.some(s.All(), 2), {slices.Max(all(s))}} {
			was, given := held(s), slices.Clone(roots)
			first, _ := mark.Reach(s, roots)
			kept := slices.Clone(first)
			second, _ := mark.Reach(s, roots)
			second = second[:cap(second)]
			for i := range second {
				second[i] = math.MaxUint32
			}
			if !slices.Equal(first, kept) || !slices.Equal(roots, given) {
				t.Fatalf("%d and %d, they were %d and %d", first, roots, kept, given)
			}
			same(t, s, was)
			reaches(t, s, roots)
		}
		first, _ := mark.Reach(s, s.All())
		kept := slices.Clone(first)
		collects(t, s, nil)
		laidAll(t, s, d.functions(vars, 4))
		if !slices.Equal(first, kept) {
			t.Fatalf("behind a collection %d, it was %d", first, kept)
		}
	}
}

// P17.1, P17.2: what isn't a node is refused, alone, in stores that are empty, full, or neither.
func TestNoNode(t *testing.T) {
	for _, vars := range []int{1, 3, api.MaxVars} {
		for _, room := range []int{1, 50, api.MaxSlots} {
			s := store(t, vars, room)
			for range 2 {
				for _, n := range append([]api.Handle{never(s), never(s) + 1, 100, 1<<15 + 2, 1<<28 - 1}, great...) {
					refuses(t, s, []api.Handle{n})
					refuses(t, s, []api.Handle{n, n})
				}
				laid(t, s, truth.Var(vars-1))
			}
		}
	}
}

// P17.1, P17.2: what isn't a node is refused in every place of a list, beside nodes and constants, beside others that are none, and however long the list is.
func TestNoNodeInLists(t *testing.T) {
	for _, vars := range []int{1, 3, api.MaxVars} {
		s := store(t, vars, 600)
		d := draw(vars)
		laidAll(t, s, d.functions(vars, 2))
		l := all(s)
		for _, n := range append([]api.Handle{never(s), never(s) + 1, 1<<28 - 1}, great...) {
			for _, length := range []int{1, 2, 3, 9, 40} {
				var roots []api.Handle
				for range length {
					roots = append(roots, l[d.next(len(l))])
				}
				for at := range roots {
					with := slices.Clone(roots)
					with[at] = n
					refuses(t, s, with)
				}
				refuses(t, s, append(slices.Clone(roots), n))
				reaches(t, s, roots)
				refuses(t, s, slices.Repeat([]api.Handle{n}, length))
			}
		}
	}
}

// P17.1, P17.2: what was a node ahead of a collection, and went, is refused like what never was, first, last and alone, until it is made again.
func TestNoNodeAnyMore(t *testing.T) {
	for _, cached := range []bool{true, false} {
		g := byHand(t, 10)
		g.s.Cached(cached)
		collects(t, g.s, []api.Handle{g.b})
		for _, n := range []api.Handle{g.c, g.d, g.t} {
			refuses(t, g.s, []api.Handle{n})
			refuses(t, g.s, []api.Handle{n, g.a, g.b})
			refuses(t, g.s, []api.Handle{g.a, n, g.b})
			refuses(t, g.s, []api.Handle{g.a, g.b, n})
			refuses(t, g.s, []api.Handle{0, 1, n})
			for _, level := range []int{0, 1, 2} {
				for _, k := range []triple{{level, n, 0}, {level, 1, n}, {level, n, n}} {
					if h, err := g.s.Mk(k.level, k.low, k.high); h != 0 || err != api.ErrNode {
						t.Errorf("Mk%v of what went: %d, %v", k, h, err)
					}
				}
			}
			if size, err := count.Size(g.s, []api.Handle{n}); size != 0 || err != api.ErrNode {
				t.Errorf("Size of what went: %d, %v", size, err)
			}
		}
		c := mk(t, g.s, triple{1, 0, g.a})
		if c == g.a || c == g.b {
			t.Errorf("a new node has the handle %d of another one", c)
		}
		if l := reaches(t, g.s, []api.Handle{c}); len(l) != 2 {
			t.Errorf("%d is reached from what was made again", l)
		}
		collects(t, g.s, []api.Handle{c})
		refuses(t, g.s, []api.Handle{g.b})
	}
}

// P17.2: by hand: no roots, constants, one node, several, one twice, all of them; each in its own store.
func TestCollectByHand(t *testing.T) {
	for _, e := range []struct {
		roots func(g three) []api.Handle
		stays int
	}{
		{func(three) []api.Handle { return nil }, 0},
		{func(three) []api.Handle { return []api.Handle{} }, 0},
		{func(three) []api.Handle { return []api.Handle{0} }, 0},
		{func(three) []api.Handle { return []api.Handle{1} }, 0},
		{func(three) []api.Handle { return []api.Handle{0, 1, 1} }, 0},
		{func(g three) []api.Handle { return []api.Handle{g.a} }, 1},
		{func(g three) []api.Handle { return []api.Handle{g.b} }, 2},
		{func(g three) []api.Handle { return []api.Handle{g.d} }, 1},
		{func(g three) []api.Handle { return []api.Handle{g.t} }, 4},
		{func(g three) []api.Handle { return []api.Handle{g.c, g.b, g.c} }, 3},
		{func(g three) []api.Handle { return []api.Handle{g.d, 0, g.b, 1} }, 3},
		{func(g three) []api.Handle { return []api.Handle{g.t, g.d} }, 5},
		{func(g three) []api.Handle { return g.s.All() }, 5},
	} {
		for _, room := range []int{5, 6, 1000} {
			g := byHand(t, room)
			if n := collects(t, g.s, e.roots(g)); n != 5-e.stays || g.s.Len() != e.stays {
				t.Errorf("%d of five nodes gone, want %d to stay", n, e.stays)
			}
			once(t, g.s)
		}
	}
}

// everyFunction makes all nodes of two variables: one for each function that isn't constant.
func everyFunction(t *testing.T, s *nodes.Store) []api.Handle {
	t.Helper()
	for n := range uint64(16) {
		laid(t, s, truth.Restrict(api.Func{n}, 0xfc, 0))
	}
	if s.Len() != 14 {
		t.Fatalf("%d nodes, want 14", s.Len())
	}
	return s.All()
}

// P17.2, P17.3: of all nodes of two variables each subset, collected in a store that is full, and all of them made again.
func TestEachSubset(t *testing.T) {
	for subset := range 1 << 14 {
		s := store(t, 2, 14)
		s.Cached(subset%3 > 0)
		l := everyFunction(t, s)
		var roots []api.Handle
		for i, h := range l {
			if subset>>i&1 == 1 {
				roots = append(roots, h)
			}
		}
		funcs, want := functions(s), reached(s, roots)
		if n, err := mark.Collect(s, roots); n != 14-len(want) || err != api.OK || !slices.Equal(s.All(), want) {
			t.Fatalf("subset %x: %d gone, %v, %d stay, want %d", subset, n, err, s.All(), want)
		}
		for _, h := range l {
			stays := slices.Contains(want, h)
			if s.Is(h) != stays || (s.Level(h) >= 0) != stays {
				t.Fatalf("subset %x: node %d of level %d", subset, h, s.Level(h))
			}
		}
		everyFunction(t, s)
		for h, f := range functions(s) {
			if slices.Contains(want, h) && f != funcs[h] {
				t.Fatalf("subset %x: node %d is %x, was %x", subset, h, f, funcs[h])
			}
		}
		once(t, s)
	}
}

// P17.2, P17.3: drawn roots in stores of one variable to eight, with the cache and without, over and over with what is left.
func TestCollectDrawn(t *testing.T) {
	gone, stayed := 0, 0
	for vars := 1; vars <= api.MaxVars; vars++ {
		d := draw(vars + 20)
		for round := range 8 {
			s := store(t, vars, 3000)
			s.Cached(round%2 == 0)
			for range 6 {
				laidAll(t, s, d.functions(vars, 3))
				roots := d.some(all(s), 1+d.next(30))
				gone += collects(t, s, roots)
				stayed += s.Len()
				if d.next(2) == 0 {
					once(t, s)
				}
			}
			if n := collects(t, s, s.All()); n != 0 {
				t.Fatalf("%d gone, though all are roots", n)
			}
		}
	}
	if gone < 1000 || stayed < 1000 {
		t.Errorf("%d gone, %d stayed", gone, stayed)
	}
}

// P17.2: what isn't reached by Low and High from a root goes, however near it lies: a root's parents go, and what shares its nodes; a root's nodes stay, down to the deepest.
func TestEachRoot(t *testing.T) {
	for vars := 1; vars <= 4; vars++ {
		d := draw(vars + 40)
		fs := d.functions(vars, 4)
		n := truth.Size(fs, []int{0, 1, 2, 3}[:vars])
		for at := range n {
			s := store(t, vars, 1000)
			laidAll(t, s, fs)
			root := s.All()[at]
			want := len(reached(s, []api.Handle{root}))
			if gone := collects(t, s, []api.Handle{root}); gone != n-want || !s.Is(root) {
				t.Fatalf("%d gone, want %d", gone, n-want)
			}
		}
	}
}

// P17.2: what was collected can be collected again, by the same roots, by fewer and by none: nothing goes twice.
func TestCollectTwice(t *testing.T) {
	for vars := 1; vars <= api.MaxVars; vars++ {
		d := draw(vars + 60)
		s := store(t, vars, 3000)
		roots := laidAll(t, s, d.functions(vars, 5))
		laidAll(t, s, d.functions(vars, 5))
		for len(roots) > 0 {
			first := collects(t, s, roots)
			if again := collects(t, s, roots); again != 0 {
				t.Fatalf("%d gone, and again %d", first, again)
			}
			if again := collects(t, s, reached(s, roots)); again != 0 {
				t.Fatalf("%d gone, and again %d", first, again)
			}
			once(t, s)
			roots = roots[1:]
		}
		left := s.Len()
		if n := collects(t, s, nil); n != left || collects(t, s, nil) != 0 {
			t.Fatalf("%d gone, want %d", n, left)
		}
		if n := collects(t, store(t, vars, 3), nil); n != 0 {
			t.Fatalf("%d gone of an empty store", n)
		}
	}
}

// P17.2: a refused Collect changes nothing that a later call could tell: the store stays as full as it was, nothing that was kept is lost, and Mk goes on as in a store that wasn't asked.
func TestRefusedChangesNothing(t *testing.T) {
	for _, cached := range []bool{true, false} {
		s, o := byHand(t, 6), byHand(t, 6)
		s.s.Cached(cached)
		o.s.Cached(cached)
		gone := []func(g three) api.Handle{
			func(g three) api.Handle { return never(g.s) },
			func(three) api.Handle { return 1<<28 + 2 },
		}
		for _, n := range gone {
			refuses(t, s.s, []api.Handle{n(s)})
			refuses(t, s.s, []api.Handle{s.b, n(s)})
			refuses(t, s.s, []api.Handle{n(s), s.b})
		}
		for _, k := range []triple{{2, 0, 1}, {0, s.b, s.c}, {1, s.d, 0}} {
			if a, b := mk(t, s.s, k), mk(t, o.s, k); a != b {
				t.Fatalf("Mk%v: %d, %d in a store that wasn't asked", k, a, b)
			}
		}
		refuses(t, s.s, []api.Handle{never(s.s), s.a})
		if h, err := s.s.Mk(0, s.d, 1); h != 0 || err != api.ErrFull {
			t.Fatalf("Mk of a full store: %d, %v", h, err)
		}
		if !maps.Equal(held(s.s), held(o.s)) {
			t.Fatalf("%v, in a store that wasn't asked %v", held(s.s), held(o.s))
		}
	}
}

// P17.3: a store that was full has room for just as many nodes as went, and is full then; what stays is told still, what went is made again.
func TestRoomBehind(t *testing.T) {
	for _, room := range []int{1, 2, 3, 4, 5, 7, 8, 15, 16, 17, 63, 64, 65, 250} {
		d := draw(room)
		for round := range 6 {
			s := store(t, 4, room)
			s.Cached(round%2 == 0)
			fill(t, s)
			was, funcs := held(s), functions(s)
			n := collects(t, s, d.some(s.All(), 1+round*2))
			stays := held(s)
			for h, k := range stays {
				if got := mk(t, s, k); got != h {
					t.Fatalf("Mk%v of what stays: %d, but it was %d", k, got, h)
				}
			}
			same(t, s, stays)
			remake(t, s, was, funcs)
			if s.Len() != room || len(was)-n != len(stays) {
				t.Fatalf("%d nodes of %d, %d went", s.Len(), room, n)
			}
			once(t, s)
			full(t, s)
			for h, k := range stays {
				if of(s, h) != k {
					t.Fatalf("node %d is %v, was %v", h, of(s, h), k)
				}
			}
		}
	}
}

// remake makes all that was, children first, each by what its children are now; it fails unless each is what it was.
func remake(t *testing.T, s *nodes.Store, was map[api.Handle]triple, funcs map[api.Handle]api.Func) {
	t.Helper()
	now := map[api.Handle]api.Handle{0: 0, 1: 1}
	for level := s.Vars() - 1; level >= 0; level-- {
		for _, h := range slices.Sorted(maps.Keys(was)) {
			if k := was[h]; k.level == level {
				now[h] = mk(t, s, triple{level, now[k.low], now[k.high]})
				if !s.Is(now[h]) || now[h] >= 1<<28 {
					t.Fatalf("%v made again: %d", k, now[h])
				}
			}
		}
	}
	is := functions(s)
	for h, f := range funcs {
		if is[now[h]] != f {
			t.Fatalf("node %d was %x, made again %d is %x", h, f, now[h], is[now[h]])
		}
	}
}

// full fails unless what isn't there is refused.
func full(t *testing.T, s *nodes.Store) {
	t.Helper()
	there := map[triple]bool{}
	for _, k := range held(s) {
		there[k] = true
	}
	refused := 0
	for level := range s.Vars() {
		for _, low := range all(s) {
			k := triple{level, low, 1}
			if low == 1 || s.Level(low) <= level || there[k] {
				continue
			}
			if h, err := s.Mk(k.level, k.low, k.high); h != 0 || err != api.ErrFull {
				t.Fatalf("Mk%v of a full store: %d, %v", k, h, err)
			}
			if refused++; refused > 20 {
				return
			}
		}
	}
	if refused == 0 {
		t.Fatal("nothing is refused")
	}
}

// P17.2, P17.3: nothing goes of a full store of which all is reached, and it is full behind it still; the room of one that isn't full stays what it was.
func TestNothingGoes(t *testing.T) {
	for _, room := range []int{1, 2, 9, 100} {
		s := store(t, 4, room)
		fill(t, s)
		for range 3 {
			if n := collects(t, s, s.All()); n != 0 {
				t.Fatalf("%d gone", n)
			}
			full(t, s)
			once(t, s)
		}
	}
	s := store(t, 2, 5)
	a := mk(t, s, triple{1, 0, 1})
	mk(t, s, triple{1, 1, 0})
	collects(t, s, []api.Handle{a})
	fill(t, s)
	full(t, s)
	if s.Len() != 5 {
		t.Errorf("%d nodes in room for 5", s.Len())
	}
}

// P17.3: a store of one variable, of room for one and for two: the same over and over, one node taking the other's room.
func TestRoomForOne(t *testing.T) {
	for _, cached := range []bool{true, false} {
		for _, room := range []int{1, 2} {
			s := store(t, 1, room)
			s.Cached(cached)
			for i := range api.Handle(300) {
				k := triple{0, i % 2, 1 - i%2}
				h := mk(t, s, k)
				if of(s, h) != k || s.Len() != 1 || h < 2 || h >= 1<<28 {
					t.Fatalf("node %d is %v, want %v", h, of(s, h), k)
				}
				other := triple{0, k.high, k.low}
				if room == 1 {
					if got, err := s.Mk(other.level, other.low, other.high); got != 0 || err != api.ErrFull {
						t.Fatalf("Mk%v of a full store: %d, %v", other, got, err)
					}
				} else if got := mk(t, s, other); got == h || of(s, got) != other {
					t.Fatalf("Mk%v: %d, beside %d", other, got, h)
				}
				if n := collects(t, s, []api.Handle{h}); n != room-1 || s.Len() != 1 {
					t.Fatalf("%d gone, want %d", n, room-1)
				}
				if n := collects(t, s, []api.Handle{i % 2}); n != 1 {
					t.Fatalf("%d gone, want 1", n)
				}
			}
		}
	}
}

// P17.3: a store of the greatest room, full, collected to some, and filled again.
func TestGreatestRoom(t *testing.T) {
	s := store(t, api.MaxVars, api.MaxSlots)
	fill(t, s)
	d := draw(1)
	was := held(s)
	roots := d.some(s.All(), 3000)
	want := reached(s, roots)
	n, err := mark.Collect(s, roots)
	if n != api.MaxSlots-len(want) || err != api.OK || !slices.Equal(s.All(), want) {
		t.Fatalf("%d gone, %v, %d stay, want %d", n, err, s.Len(), len(want))
	}
	for h, k := range was {
		if !s.Is(h) {
			k = triple{-1, 0, 0}
		}
		if of(s, h) != k {
			t.Fatalf("node %d is %v, want %v", h, of(s, h), k)
		}
	}
	fill(t, s)
	once(t, s)
	full(t, s)
	for _, h := range want {
		if of(s, h) != was[h] {
			t.Fatalf("node %d is %v, was %v", h, of(s, h), was[h])
		}
	}
	if n, err := mark.Collect(s, nil); n != api.MaxSlots || err != api.OK || s.Len() != 0 {
		t.Fatalf("%d gone, %v, %d left", n, err, s.Len())
	}
}

// P17.2: results that were kept ahead of a collection are forgotten: what went isn't told by its elder handle, which is another node's by then; with the cache on, off, and switched.
func TestForgotten(t *testing.T) {
	l := []triple{{2, 0, 1}, {2, 1, 0}, {1, 0, 1}, {1, 1, 0}, {0, 0, 1}, {0, 1, 0}}
	for way := range 4 {
		s := store(t, 3, 40)
		s.Cached(way%2 == 0)
		for round := range 60 {
			// In other turns each time, so that elder handles become others'.
			for i := range l {
				k := l[(5*i+round)%len(l)]
				h := mk(t, s, k)
				if again := mk(t, s, k); again != h || of(s, h) != k {
					t.Fatalf("way %d: Mk%v: %d, which is %v, and again %d", way, k, h, of(s, h), again)
				}
				if k.level == 0 {
					continue
				}
				// The same parts, and yet another function, when h is another node.
				above := triple{0, h, 1}
				if got := mk(t, s, above); of(s, got) != above {
					t.Fatalf("way %d: Mk%v: %d, which is %v", way, above, got, of(s, got))
				}
			}
			once(t, s)
			if way >= 2 {
				s.Cached(round%4 < 2)
			}
			collects(t, s, s.All()[:round%3])
		}
	}
}

// do makes a call of each of the layers that make nodes, of the nodes of f and g, and fails unless its answer is what it means.
func do(t *testing.T, s *nodes.Store, f, g api.Func, d draw) {
	t.Helper()
	vars := s.Vars()
	a, b := laid(t, s, f), laid(t, s, g)
	mask, vals, v := uint8(d.next(1<<vars)), uint8(d.next(256)), d.next(vars)
	answers := func(name string, h api.Handle, err api.Errno, want api.Func) {
		t.Helper()
		if got, other := build.Func(s, h); err != api.OK || other != api.OK || got != want {
			t.Fatalf("%s: %d, %v: %x, want %x", name, h, err, got, want)
		}
	}
	h, err := logic.Not(s, a)
	answers("Not", h, err, truth.Not(f))
	h, err = logic.And(s, a, b)
	answers("And", h, err, truth.And(f, g))
	h, err = logic.Or(s, a, b)
	answers("Or", h, err, truth.Or(f, g))
	h, err = logic.Xor(s, a, b)
	answers("Xor", h, err, truth.Xor(f, g))
	h, err = logic.Ite(s, b, a, h)
	answers("Ite", h, err, truth.Ite(g, f, truth.Xor(f, g)))
	h, err = logic.Var(s, v)
	answers("Var", h, err, truth.Var(v))
	h, err = quant.Exists(s, a, mask)
	answers("Exists", h, err, truth.Exists(f, mask))
	h, err = quant.Forall(s, a, mask)
	answers("Forall", h, err, truth.Forall(f, mask))
	h, err = quant.Restrict(s, a, mask, vals)
	answers("Restrict", h, err, truth.Restrict(f, mask, vals))
	h, err = compose.Compose(s, a, v, b)
	answers("Compose", h, err, truth.Compose(f, v, g))
	h, err = build.From(s, truth.Xor(f, truth.Var(v)))
	answers("From", h, err, truth.Xor(f, truth.Var(v)))
	if vars%2 == 0 {
		states := truth.Exists(f, 0xaa)
		p := laid(t, s, states)
		h, err = rel.Next(s, p, b)
		answers("Next", h, err, truth.Next(states, g))
		h, err = rel.Prev(s, p, b)
		answers("Prev", h, err, truth.Prev(states, g))
	}
	if n, err := count.Count(s, a); n != uint64(truth.Count(f)>>(api.MaxVars-vars)) || err != api.OK {
		t.Fatalf("Count: %d, %v", n, err)
	}
}

// P17.2, P17.3: operations go on behind a collection: the same ones that were asked ahead of it, and others, of what stays and of what is made again; with the cache on, off, and switched.
func TestOperationsBehind(t *testing.T) {
	for vars := 1; vars <= api.MaxVars; vars++ {
		for way := range 3 {
			d := draw(10*vars + way)
			s := store(t, vars, api.MaxSlots)
			s.Cached(way == 0)
			fs := d.functions(vars, 4)
			keep := laid(t, s, fs[0])
			for round := range 6 {
				do(t, s, fs[round%4], fs[(round+1)%4], draw(round%2))
				if way == 2 {
					s.Cached(d.next(2) == 0)
				}
				switch round % 3 {
				case 0:
					collects(t, s, []api.Handle{keep})
				case 1:
					collects(t, s, append(d.some(s.All(), 9), keep))
				case 2:
					collects(t, s, []api.Handle{0, keep, 1, keep})
				}
				if laid(t, s, fs[0]) != keep {
					t.Fatalf("%x isn't %d any more", fs[0], keep)
				}
				do(t, s, fs[round%4], fs[(round+1)%4], draw(round%2))
				once(t, s)
			}
		}
	}
}

// P17.3: what had no room is made behind a collection of just what it needs.
func TestRoomForAnswer(t *testing.T) {
	for vars := 2; vars <= api.MaxVars; vars++ {
		d := draw(vars + 80)
		for range 20 {
			f, g, junk := d.function(vars), d.function(vars), d.function(vars)
			want := truth.And(f, g)
			order := store(t, vars, 1).Order().All()
			need, without := truth.Size([]api.Func{f, g, want}, order), truth.Size([]api.Func{f, g, junk}, order)
			s := store(t, vars, max(need, without, 1))
			laid(t, s, junk)
			a, b := laid(t, s, f), laid(t, s, g)
			if h, err := logic.And(s, a, b); err == api.ErrFull && h != 0 {
				t.Fatalf("And: %d beside ErrFull", h)
			}
			collects(t, s, []api.Handle{a, b})
			h, err := logic.And(s, a, b)
			if got, other := build.Func(s, h); err != api.OK || other != api.OK || got != want {
				t.Fatalf("And behind a collection: %d, %v: %x, want %x", h, err, got, want)
			}
			if s.Len() != need {
				t.Fatalf("%d nodes, want %d", s.Len(), need)
			}
		}
	}
}

// plain is what a store is told to hold: each inner node by its handle and the other way round.
type plain struct {
	has  map[triple]api.Handle
	made map[api.Handle]triple
}

// keep takes away what isn't reached from roots, and tells how many went.
func (p *plain) keep(roots []api.Handle) int {
	stay := map[api.Handle]triple{}
	for work := slices.Clone(roots); len(work) > 0; work = work[1:] {
		if k, there := p.made[work[0]]; there {
			stay[work[0]] = k
			work = append(work, k.low, k.high)
		}
	}
	n := len(p.made) - len(stay)
	p.made, p.has = stay, map[triple]api.Handle{}
	for h, k := range stay {
		p.has[k] = h
	}
	return n
}

// row makes drawn calls of Mk, and a collection now and again; hold is told ahead of each. It fails where the store tells something else than a plain list; it tells all answers.
func row(t *testing.T, s *nodes.Store, d draw, calls int, hold func(i int)) []api.Handle {
	t.Helper()
	p := &plain{map[triple]api.Handle{}, map[api.Handle]triple{}}
	var answers []api.Handle
	for i := range calls {
		hold(i)
		known := append([]api.Handle{0, 1}, slices.Sorted(maps.Keys(p.made))...)
		if d.next(60) == 0 || len(p.made) == s.Room() && d.next(4) == 0 {
			roots := d.some(known, 1+d.next(len(known)))
			want := p.keep(roots)
			if n, err := mark.Collect(s, roots); n != want || err != api.OK {
				t.Fatalf("call %d: Collect(%d): %d, %v, want %d", i, roots, n, err, want)
			}
			if !maps.Equal(held(s), p.made) || s.Len() != len(p.made) {
				t.Fatalf("call %d: %v, want %v", i, held(s), p.made)
			}
			continue
		}
		k := triple{0, known[d.next(len(known))], known[d.next(len(known))]}
		k.level = min(s.Level(k.low), s.Level(k.high)) - 1 - d.next(2)
		answers = append(answers, p.mk(t, s, k))
	}
	if !maps.Equal(held(s), p.made) {
		t.Fatalf("%v, want %v", held(s), p.made)
	}
	once(t, s)
	return answers
}

// mk asks s for a node, fails unless it answers what p holds, and has p hold it.
func (p *plain) mk(t *testing.T, s *nodes.Store, k triple) api.Handle {
	t.Helper()
	h, err := s.Mk(k.level, k.low, k.high)
	was, there := p.has[k]
	_, taken := p.made[h]
	switch {
	case k.level < 0:
		there = h == 0 && err == api.ErrVar
	case k.low == k.high:
		there = h == k.low && err == api.OK
	case there:
		there = h == was && err == api.OK
	case len(p.made) == s.Room():
		there = h == 0 && err == api.ErrFull
	default:
		there = h > 1 && h < 1<<28 && !taken && err == api.OK
		p.has[k], p.made[h] = h, k
	}
	if !there || s.Len() != len(p.made) {
		t.Fatalf("Mk%v: %d, %v, Len %d of %d", k, h, err, s.Len(), len(p.made))
	}
	return h
}

// P17.2, P17.3: long drawn rows of Mk and collections, told apart from a plain list by nothing; with the cache or without, or switched: the same answers.
func TestRows(t *testing.T) {
	for seed, c := range []struct{ vars, room, calls int }{{1, 1, 200}, {1, 2, 200}, {2, 3, 600}, {2, 14, 800}, {3, 30, 2000}, {5, 60, 3000}, {8, 17, 2000}, {8, 200, 3000}, {8, api.MaxSlots, 3000}} {
		var first []api.Handle
		for way := range 4 {
			s, other := store(t, c.vars, c.room), draw(way)
			got := row(t, s, draw(seed+1), c.calls, func(i int) {
				switch {
				case way == 1 && i == 0:
					s.Cached(false)
				case way == 2:
					s.Cached(i/10%2 == 1)
				case way == 3:
					s.Cached(other.next(3) == 0)
				}
			})
			if way == 0 {
				first = got
			}
			if !slices.Equal(got, first) {
				t.Fatalf("way %d: other answers", way)
			}
		}
	}
}

// P17.3: a store is collected ever so often, and there is room, and a handle below 2^28, for what went.
func TestEverSoOften(t *testing.T) {
	s := store(t, 3, 4)
	a := mk(t, s, triple{2, 0, 1})
	for i := range 30000 {
		roots := []api.Handle{a}
		for j := range 3 {
			k := triple{(i + j) % 2, api.Handle(j % 2), a}
			h := mk(t, s, k)
			if h < 2 || h >= 1<<28 || of(s, h) != k {
				t.Fatalf("Mk%v: %d, which is %v", k, h, of(s, h))
			}
			if j == i%3 {
				roots[0] = h
			}
		}
		if _, err := mark.Collect(s, roots); err != api.OK || !s.Is(a) || s.Len() != 2 {
			t.Fatalf("Collect(%d): %v, %d nodes", roots, err, s.Len())
		}
	}
}

// depths tells how many are on each worker's stack.
func depths(r *refs.Refs) []int {
	var l []int
	for worker := range api.MaxWorkers {
		l = append(l, r.Depth(worker))
	}
	return l
}

// holds fails unless do leaves r as it was: what is protected, how often, and what is on the stacks.
func holds(t *testing.T, r *refs.Refs, do func()) {
	t.Helper()
	counts, deep, roots := r.All(), depths(r), r.Roots()
	do()
	if !slices.Equal(r.All(), counts) || !slices.Equal(depths(r), deep) || !slices.Equal(r.Roots(), roots) {
		t.Fatalf("protected %v, stacks of %d, roots %d, they were %v, %d, %d", r.All(), depths(r), r.Roots(), counts, deep, roots)
	}
}

// sweeps is keeps of a Sweep, of roots that r should tell; it leaves r as it was.
func sweeps(t *testing.T, s *nodes.Store, r *refs.Refs, roots ...api.Handle) (n int) {
	t.Helper()
	holds(t, r, func() {
		n = keeps(t, s, roots, func() (int, api.Errno) { return mark.Sweep(s, r) })
	})
	return n
}

// P17.2: Sweep keeps what is protected, what is on a stack, what is both, and what these reach, as long as they are held; what is let go goes.
func TestSweepByHand(t *testing.T) {
	g, r := byHand(t, 10), refs.New(2)
	r.Protect(g.t)
	r.Protect(g.t)
	r.Push(1, g.d)
	r.Push(0, g.t)
	if n := sweeps(t, g.s, r, g.t, g.d); n != 0 {
		t.Errorf("%d gone", n)
	}
	r.Pop(1)
	if n := sweeps(t, g.s, r, g.t); n != 1 || g.s.Is(g.d) {
		t.Errorf("%d gone, want d", n)
	}
	r.Unprotect(g.t)
	sweeps(t, g.s, r, g.t)
	r.Unprotect(g.t)
	sweeps(t, g.s, r, g.t)
	r.Push(1, g.b)
	r.Protect(g.c)
	r.Pop(0)
	if n := sweeps(t, g.s, r, g.b, g.c); n != 1 || g.s.Is(g.t) {
		t.Errorf("%d gone, want the top", n)
	}
	r.Protect(g.b)
	r.Unprotect(g.c)
	r.Pop(1)
	if n := sweeps(t, g.s, r, g.b); n != 1 || g.s.Is(g.c) {
		t.Errorf("%d gone, want c", n)
	}
	r.Unprotect(g.b)
	if n := sweeps(t, g.s, r); n != 2 || g.s.Len() != 0 {
		t.Errorf("%d gone, %d left", n, g.s.Len())
	}
	if n := sweeps(t, g.s, r); n != 0 {
		t.Errorf("%d gone of none", n)
	}
}

// P17.2: Sweep by nothing takes all away, and so by constants, protected or on a stack.
func TestSweepByNothing(t *testing.T) {
	for workers := 1; workers <= api.MaxWorkers; workers++ {
		for part := range 3 {
			g, r := byHand(t, 10), refs.New(workers)
			if part > 0 {
				r.Protect(api.Handle(part - 1))
				r.Push(workers-1, api.Handle(2-part))
			}
			if n := sweeps(t, g.s, r); n != 5 {
				t.Errorf("%d gone, want 5", n)
			}
		}
	}
}

// P17.2: each worker's stack holds, all of it and not its top alone.
func TestSweepByStacks(t *testing.T) {
	for workers := 1; workers <= api.MaxWorkers; workers++ {
		d := draw(workers)
		s, r := store(t, 5, 3000), refs.New(workers)
		var roots []api.Handle
		for i := range 4 * workers {
			h := laid(t, s, d.function(5))
			laid(t, s, d.function(5))
			r.Push(i%workers, h)
			roots = append(roots, h)
		}
		if sweeps(t, s, r, roots...) == 0 {
			t.Fatal("nothing is gone")
		}
		for i := len(roots) - 1; i >= 0; i-- {
			if h, ok := r.Pop(i % workers); h != roots[i] || !ok {
				t.Fatalf("Pop: %d, want %d", h, roots[i])
			}
			sweeps(t, s, r, roots[:i]...)
		}
	}
}

// P17.2: drawn rows of holds of both kinds, let go again, and sweeps, in stores of one variable to eight.
func TestSweepDrawn(t *testing.T) {
	for vars := 1; vars <= api.MaxVars; vars++ {
		d := draw(vars + 100)
		s, r := store(t, vars, api.MaxSlots), refs.New(3)
		protected, stacks := []api.Handle{}, [3][]api.Handle{}
		for i := range 60 {
			s.Cached(i/10%2 == 0)
			h, worker := laid(t, s, d.function(vars)), d.next(3)
			switch d.next(5) {
			case 0, 1:
				r.Protect(h)
				protected = append(protected, h)
			case 2:
				r.Push(worker, h)
				stacks[worker] = append(stacks[worker], h)
			case 3:
				if last := len(stacks[worker]) - 1; last >= 0 {
					r.Pop(worker)
					stacks[worker] = stacks[worker][:last]
				}
			case 4:
				if len(protected) > 0 {
					at := d.next(len(protected))
					r.Unprotect(protected[at])
					protected = slices.Delete(protected, at, at+1)
				}
			}
			if d.next(3) == 0 {
				sweeps(t, s, r, slices.Concat(protected, stacks[0], stacks[1], stacks[2])...)
				once(t, s)
			}
		}
	}
}

// P17.2: Sweep refuses what isn't a node, protected or on a stack, beside nodes too: nothing is changed, neither in the store nor in what is held; let go, it is swept.
func TestSweepNoNode(t *testing.T) {
	g := byHand(t, 10)
	collects(t, g.s, []api.Handle{g.t})
	for _, n := range append([]api.Handle{g.d, never(g.s) + 5, 1<<28 - 1}, great...) {
		for part := range 4 {
			r := refs.New(2)
			if part%2 == 1 {
				r.Protect(g.b)
				r.Push(0, g.c)
			}
			if part/2 == 1 {
				r.Protect(n)
			} else {
				r.Push(1, n)
			}
			was := held(g.s)
			holds(t, r, func() {
				if gone, err := mark.Sweep(g.s, r); gone != 0 || err != api.ErrNode {
					t.Fatalf("Sweep by %d: %d, %v", n, gone, err)
				}
			})
			same(t, g.s, was)
		}
	}
	r := refs.New(1)
	r.Protect(g.b)
	r.Protect(g.d)
	mark.Sweep(g.s, r)
	r.Unprotect(g.d)
	if n := sweeps(t, g.s, r, g.b); n != 2 {
		t.Errorf("%d gone, want 2", n)
	}
}

// P17.2: a Sweep is a Collect of r's Roots: the same goes, in stores that are alike.
func TestSweepIsCollect(t *testing.T) {
	for vars := 1; vars <= api.MaxVars; vars++ {
		d := draw(vars + 120)
		fs := d.functions(vars, 9)
		s, o, r := store(t, vars, 3000), store(t, vars, 3000), refs.New(2)
		l := laidAll(t, s, fs)
		laidAll(t, o, fs)
		for i, h := range l[:5] {
			if i%2 == 0 {
				r.Protect(h)
			} else {
				r.Push(i/2%2, h)
			}
		}
		swept, first := mark.Sweep(s, r)
		collected, second := mark.Collect(o, r.Roots())
		if swept != collected || first+second != api.OK || !maps.Equal(held(s), held(o)) {
			t.Fatalf("%d swept, %d collected: %v and %v", swept, collected, held(s), held(o))
		}
	}
}

// DOC.md's rule 6: stores don't know of one another: a collection in one of them, or a refused one, leaves the other one as it is, though the handles are the same.
func TestTwoStores(t *testing.T) {
	g, o := byHand(t, 10), byHand(t, 10)
	great := store(t, api.MaxVars, 3000)
	d := draw(140)
	laidAll(t, great, d.functions(api.MaxVars, 3))
	was, others := held(o.s), held(great)
	for _, roots := range [][]api.Handle{{g.t}, {g.b}, {g.d}, nil} {
		mark.Collect(g.s, roots)
		same(t, o.s, was)
		same(t, great, others)
		if l := reaches(t, o.s, []api.Handle{o.t, o.d}); len(l) != 5 {
			t.Fatalf("%d is reached in the other store", l)
		}
		for h, k := range was {
			if got := mk(t, o.s, k); got != h {
				t.Fatalf("Mk%v of the other store: %d, but it was %d", k, got, h)
			}
		}
	}
	if g.s.Len() != 0 || o.s.Len() != 5 {
		t.Fatalf("%d and %d nodes", g.s.Len(), o.s.Len())
	}
	fill(t, g.s)
	collects(t, o.s, []api.Handle{o.d})
	once(t, g.s)
	collects(t, great, d.some(great.All(), 9))
	once(t, o.s)
	if g.s.Len() != 10 || o.s.Len() != 1 {
		t.Fatalf("%d and %d nodes", g.s.Len(), o.s.Len())
	}
}

// DOC.md's rule 6: the same calls, the same answers, handles too.
func TestSameAgain(t *testing.T) {
	for _, vars := range []int{2, 5, api.MaxVars} {
		var first []api.Handle
		for again := range 5 {
			s := store(t, vars, 120)
			if got := row(t, s, draw(vars), 1500, func(int) {}); again == 0 {
				first = got
			} else if !slices.Equal(got, first) {
				t.Fatal("other answers to the same calls")
			}
		}
	}
}
