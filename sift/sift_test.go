package sift_test

import (
	"maps"
	"math"
	"slices"
	"testing"

	"spinney/api"
	"spinney/logic"
	"spinney/nodes"
	"spinney/sift"
	"spinney/swap"
	"spinney/truth"
)

// store makes a store of that order.
func store(t *testing.T, order []int, room int) *nodes.Store {
	t.Helper()
	s, err := nodes.New(len(order), room)
	if err != api.OK {
		t.Fatalf("New(%d, %d): %v", len(order), room, err)
	}
	if _, err := swap.To(s, order); err != api.OK {
		t.Fatalf("To(%v): %v", order, err)
	}
	return s
}

// rising is the first order of so many variables.
func rising(vars int) []int {
	l := make([]int, vars)
	for v := range l {
		l[v] = v
	}
	return l
}

// falling is the first order the other way round.
func falling(vars int) []int {
	l := rising(vars)
	slices.Reverse(l)
	return l
}

// orders are all orders of so many variables.
func orders(vars int) [][]int {
	if vars == 0 {
		return [][]int{nil}
	}
	var l [][]int
	for _, o := range orders(vars - 1) {
		for at := range vars {
			l = append(l, slices.Insert(slices.Clone(o), at, vars-1))
		}
	}
	return l
}

// draw is a row of numbers without a pattern.
type draw uint64

func (d *draw) next(below int) int {
	*d = *d*6364136223846793005 + 1442695040888963407
	return int(uint64(*d) >> 33 % uint64(below))
}

// order draws an order of so many variables.
func (d *draw) order(vars int) []int {
	l := make([]int, vars)
	for i := range l {
		j := d.next(i + 1)
		l[i], l[j] = l[j], i
	}
	return l
}

// function draws a function of so many variables: true often or seldom, hanging on all of them or on some.
func (d *draw) function(vars int) api.Func {
	var f api.Func
	often := d.next(17)
	for x := range 1 << vars {
		if d.next(16) < often {
			f[x/64] |= 1 << (x % 64)
		}
	}
	f = truth.Restrict(f, uint8(255<<vars), 0)
	if d.next(3) == 0 {
		f = truth.Restrict(f, uint8(d.next(256)), uint8(d.next(256)))
	}
	return f
}

// functions draws so many of them.
func (d *draw) functions(vars, many int) []api.Func {
	var l []api.Func
	for range many {
		l = append(l, d.function(vars))
	}
	return l
}

// pair is true where two variables are.
func pair(a, b int) api.Func { return truth.And(truth.Var(a), truth.Var(b)) }

// lay makes the nodes of f, from that level on.
func lay(t *testing.T, s *nodes.Store, f api.Func, level int) api.Handle {
	t.Helper()
	if level == s.Vars() {
		return api.Handle(f[0] & 1)
	}
	v := s.Order().Var(level)
	h, err := s.Mk(level, lay(t, s, truth.Fix(f, v, false), level+1), lay(t, s, truth.Fix(f, v, true), level+1))
	if err != api.OK {
		t.Fatalf("no room for %x: %v, %d nodes in room for %d", f, err, s.Len(), s.Room())
	}
	return h
}

// laid makes the nodes of each of l.
func laid(t *testing.T, s *nodes.Store, l []api.Func) []api.Handle {
	t.Helper()
	var handles []api.Handle
	for _, f := range l {
		handles = append(handles, lay(t, s, f, 0))
	}
	return handles
}

// triple is what an inner node is made of.
type triple struct {
	level     int
	low, high api.Handle
}

// of is what s tells of a handle.
func of(s *nodes.Store, h api.Handle) triple { return triple{s.Level(h), s.Low(h), s.High(h)} }

// held is all inner nodes of s.
func held(s *nodes.Store) map[api.Handle]triple {
	m := map[api.Handle]triple{}
	for _, h := range s.All() {
		m[h] = of(s, h)
	}
	return m
}

// unchanged fails unless s holds just those nodes, in that order.
func unchanged(t *testing.T, s *nodes.Store, was map[api.Handle]triple, order []int) {
	t.Helper()
	if s.Len() != len(was) || len(s.All()) != len(was) || !maps.Equal(held(s), was) || !slices.Equal(s.Order().All(), order) {
		t.Fatalf("order %v, %d nodes: %v, there were %v in order %v", s.Order().All(), s.Len(), held(s), was, order)
	}
}

// below is what s holds of roots and of what hangs below them.
func below(s *nodes.Store, roots []api.Handle) map[api.Handle]triple {
	m := map[api.Handle]triple{}
	for todo := slices.Clone(roots); len(todo) > 0; {
		h := todo[len(todo)-1]
		todo = todo[:len(todo)-1]
		if _, there := m[h]; h > 1 && !there {
			m[h] = of(s, h)
			todo = append(todo, m[h].low, m[h].high)
		}
	}
	return m
}

// function is the table of a node, by walks at all assignments.
func function(s *nodes.Store, h api.Handle) api.Func {
	var f api.Func
	o := s.Order()
	for x := range 256 {
		at := h
		for at > 1 {
			if x>>o.Var(s.Level(at))&1 == 1 {
				at = s.High(at)
			} else {
				at = s.Low(at)
			}
		}
		f[x/64] |= uint64(at) << (x % 64)
	}
	return f
}

// counted is how many nodes lie on each level of the functions of l under the order: on a level lie the unlike ones that hang on its variable, of those that are left where the variables above it are fixed.
func counted(l []api.Func, order []int) []int {
	at := map[api.Func]bool{}
	for _, f := range l {
		at[f] = true
	}
	var levels []int
	for _, v := range order {
		n, next := 0, map[api.Func]bool{}
		for f := range at {
			low, high := truth.Fix(f, v, false), truth.Fix(f, v, true)
			if low != high {
				n++
			}
			next[low], next[high] = true, true
		}
		levels, at = append(levels, n), next
	}
	return levels
}

// sum is how many nodes the functions of l have under the order.
func sum(l []api.Func, order []int) int {
	n := 0
	for _, k := range counted(l, order) {
		n += k
	}
	return n
}

// planned is what Plan is to tell of the functions of l under the order.
func planned(l []api.Func, order []int) []int {
	levels, plan := counted(l, order), []int{}
	for most := slices.Max(levels); most >= 0; most-- {
		for v := range order {
			if levels[slices.Index(order, v)] == most {
				plan = append(plan, v)
			}
		}
	}
	return plan
}

// without is the order without the variable.
func without(order []int, v int) []int {
	return slices.DeleteFunc(slices.Clone(order), func(w int) bool { return w == v })
}

// sifted is the order with which Sift is to end: each variable of the plan is tried at each place.
func sifted(l []api.Func, order []int) []int {
	sums := map[string]int{} // many an order is met again
	at := func(o []int) int {
		var key []byte
		for _, v := range o {
			key = append(key, byte(v))
		}
		if _, there := sums[string(key)]; !there {
			sums[string(key)] = sum(l, o)
		}
		return sums[string(key)]
	}
	for _, v := range planned(l, order) {
		others := without(order, v)
		least := math.MaxInt
		for level := range len(order) {
			o := slices.Insert(slices.Clone(others), level, v)
			if n := at(o); n < least {
				least, order = n, o
			}
		}
	}
	return order
}

// whole fails unless no two nodes of s are alike, none has low and high alike, children are nodes that lie deeper, and Mk of each tells its handle.
func whole(t *testing.T, s *nodes.Store) {
	t.Helper()
	was, seen := held(s), map[triple]bool{}
	for h, k := range was {
		if seen[k] || k.low == k.high || !s.Is(h) || !s.Is(k.low) || !s.Is(k.high) || h < 2 || h >= 1<<28 {
			t.Fatalf("node %d is %v", h, k)
		}
		seen[k] = true
		if got, err := s.Mk(k.level, k.low, k.high); got != h || err != api.OK {
			t.Fatalf("Mk%v: %d, %v, but it is %d", k, got, err, h)
		}
	}
	unchanged(t, s, was, s.Order().All())
}

// plans fails unless Plan tells what it is to tell of roots, which are the functions of l, and leaves the store and the list as they were.
func plans(t *testing.T, s *nodes.Store, roots []api.Handle, l []api.Func) {
	t.Helper()
	was, order, given := held(s), s.Order().All(), spare(roots)
	for range 2 {
		got, err := sift.Plan(s, given[:len(roots)])
		if want := planned(l, order); err != api.OK || !slices.Equal(got, want) {
			t.Fatalf("Plan of %v in order %v: %v, %v, want %v: %v on the levels", roots, order, got, err, want, counted(l, order))
		}
		// An answer is nobody else's: what is done with it changes no later one.
		clear(got[:cap(got)])
	}
	kept(t, given, roots)
	unchanged(t, s, was, order)
}

// spare is the list with room behind it that is to be left alone.
func spare(roots []api.Handle) []api.Handle { return append(slices.Clone(roots), 7, 0, 77, 2) }

// kept fails unless what spare made of roots is as it was.
func kept(t *testing.T, given, roots []api.Handle) {
	t.Helper()
	if !slices.Equal(given, spare(roots)) {
		t.Fatalf("the list is %v, was %v", given, spare(roots))
	}
}

// sifts fails unless Sift of roots, which are the functions of l, answers and does what it is to do where there is room. It tells both sizes.
func sifts(t *testing.T, s *nodes.Store, roots []api.Handle, l []api.Func) (int, int) {
	t.Helper()
	vars, room, order, given := s.Vars(), s.Room(), s.Order().All(), spare(roots)
	want := sifted(l, order)
	before, after, err := sift.Sift(s, given[:len(roots)])
	kept(t, given, roots)
	clear(given)
	if before != sum(l, order) || after != sum(l, want) || err != api.OK {
		t.Fatalf("Sift of %d in order %v, room %d: %d to %d, %v, want %d to %d", roots, order, room, before, after, err, sum(l, order), sum(l, want))
	}
	if !slices.Equal(s.Order().All(), want) || s.Vars() != vars || s.Room() != room {
		t.Fatalf("Sift of %d in order %v: it is %v, want %v", roots, order, s.Order().All(), want)
	}
	if after > before {
		t.Fatalf("Sift of %d in order %v: %d grew to %d", roots, order, before, after)
	}
	// What isn't reached is gone, and what is reached is what the functions have under this order.
	if s.Len() != after || !maps.Equal(held(s), below(s, roots)) {
		t.Fatalf("Sift of %d in order %v: %d nodes, %d are reached", roots, order, s.Len(), after)
	}
	are(t, s, roots, l)
	whole(t, s)
	return before, after
}

// are fails unless the roots are nodes of the functions of l, and are what Mk makes of these.
func are(t *testing.T, s *nodes.Store, roots []api.Handle, l []api.Func) {
	t.Helper()
	for i, h := range roots {
		if !s.Is(h) || function(s, h) != l[i] || lay(t, s, l[i], 0) != h {
			t.Fatalf("order %v: %d is %x, was %x", s.Order().All(), h, function(s, h), l[i])
		}
	}
}

// P19.2: the chapter's example: of no roots nothing is reached wherever a variable lies, so each of them, the least one first, goes to the least level; what there was is gone.
func TestNoRoots(t *testing.T) {
	for vars := 1; vars <= api.MaxVars; vars++ {
		for _, roots := range [][]api.Handle{nil, {}, {0}, {1}, {1, 0, 1, 1}} {
			d := draw(vars)
			for _, order := range [][]int{rising(vars), falling(vars), d.order(vars)} {
				for many := range 3 {
					s := store(t, order, 400)
					laid(t, s, d.functions(vars, many))
					constants := make([]api.Func, len(roots))
					for i, h := range roots {
						constants[i] = truth.Const(h == 1)
					}
					plans(t, s, roots, constants)
					if b, a := sifts(t, s, roots, constants); b != 0 || a != 0 || s.Len() != 0 || !slices.Equal(s.Order().All(), falling(vars)) {
						t.Fatalf("%d to %d, %d nodes, the order is %v", b, a, s.Len(), s.Order().All())
					}
				}
			}
		}
	}
}

// P19.1: 200 times the unlike handles above 1, at least 200; whether they are nodes of some store isn't asked.
func TestRoom(t *testing.T) {
	const top = math.MaxUint32
	many, twice := make([]api.Handle, 70000), make([]api.Handle, 70000)
	for i := range many {
		many[i], twice[i] = api.Handle(i), api.Handle(i/2+2)
	}
	for _, e := range []struct {
		roots []api.Handle
		want  int
	}{
		{nil, 200},
		{[]api.Handle{}, 200},
		{[]api.Handle{0}, 200},
		{[]api.Handle{1}, 200},
		{[]api.Handle{1, 0, 1, 0}, 200},
		{[]api.Handle{2}, 200},
		{[]api.Handle{top}, 200},
		{[]api.Handle{5, 5, 5}, 200},
		{[]api.Handle{0, 2, 1}, 200},
		{[]api.Handle{2, 3}, 400},
		{[]api.Handle{3, 2}, 400},
		{[]api.Handle{5, 5, 9, 1}, 400},
		{[]api.Handle{9, 5, 9, 5, 9}, 400},
		{[]api.Handle{top, 2, top - 1, 1 << 28, 1<<28 - 1}, 1000},
		{many, 200 * 69998},
		{twice, 200 * 35000},
		{append(slices.Clone(twice), many...), 200 * 69998},
	} {
		given := spare(e.roots)
		if n := sift.Room(given[:len(e.roots)]); n != e.want {
			t.Errorf("Room of %d handles, %d: %d, want %d", len(e.roots), e.roots[:min(9, len(e.roots))], n, e.want)
		}
		kept(t, given, e.roots)
	}
}

// P19.1: by hand: the level with the most nodes first, whatever variable lies there; of levels with as many, and of those without, the least variable first.
func TestPlanByHand(t *testing.T) {
	x := truth.Var
	three := truth.Xor(x(0), truth.Xor(x(1), x(2))) // one node, and two, and two
	for _, e := range []struct {
		order []int
		l     []api.Func
		want  []int
	}{
		{[]int{0}, nil, []int{0}},
		{[]int{0}, []api.Func{x(0), truth.Not(x(0))}, []int{0}},
		{[]int{0, 1}, nil, []int{0, 1}},
		{[]int{1, 0}, nil, []int{0, 1}},
		{[]int{1, 0}, []api.Func{x(1)}, []int{1, 0}},
		{[]int{0, 1}, []api.Func{x(1)}, []int{1, 0}},
		{[]int{1, 0}, []api.Func{x(1), x(0)}, []int{0, 1}},
		{[]int{0, 1, 2}, []api.Func{three}, []int{1, 2, 0}},
		{[]int{2, 1, 0}, []api.Func{three}, []int{0, 1, 2}},
		{[]int{1, 2, 0}, []api.Func{three}, []int{0, 2, 1}},
		{[]int{1, 2, 0}, []api.Func{three, x(1), truth.Not(x(1))}, []int{1, 0, 2}},
		{[]int{3, 1, 2, 0}, []api.Func{three}, []int{0, 2, 1, 3}},
		{[]int{0, 1, 2, 3, 4, 5, 6, 7}, []api.Func{x(7), truth.Not(x(7)), x(5)}, []int{7, 5, 0, 1, 2, 3, 4, 6}},
		{[]int{7, 5, 6, 4, 3, 1, 2, 0}, []api.Func{x(7), truth.Not(x(7)), x(5)}, []int{7, 5, 0, 1, 2, 3, 4, 6}},
	} {
		s := store(t, e.order, 1000)
		roots := laid(t, s, e.l)
		got, err := sift.Plan(s, roots)
		if !slices.Equal(got, e.want) || err != api.OK {
			t.Errorf("Plan in order %v: %v, %v, want %v", e.order, got, err, e.want)
		}
		plans(t, s, roots, e.l)
	}
}

// P19.1: of drawn functions under drawn orders, among others of which nobody asks, in stores of one to eight variables; of a child of a root, and of a root named more than once, each node counts once.
func TestPlanDrawn(t *testing.T) {
	for vars := 1; vars <= api.MaxVars; vars++ {
		for round := range 30 {
			d := draw(100*vars + round)
			s := store(t, d.order(vars), 2000)
			s.Cached(round%2 == 0)
			l := d.functions(vars, 1+round%4)
			laid(t, s, d.functions(vars, round%3))
			roots := laid(t, s, l)
			plans(t, s, roots, l)
			child := s.High(roots[0])
			plans(t, s, append(append(slices.Clone(roots), child, 1), roots...), l)
			if swap.To(s, d.order(vars)); s.Len() > 0 {
				plans(t, s, roots, l)
			}
		}
	}
}

// P19.1, P19.2: a root that is no node, alone, among others, first or last, in a store with room for nothing more or with much, also where Room is more than the store's: ErrNode, nothing beside it, and nothing is changed: nothing is collected either.
func TestNoNode(t *testing.T) {
	for vars := 1; vars <= api.MaxVars; vars++ {
		for _, room := range []int{100, 199, 200, 201, 3000} {
			d := draw(10*vars + room)
			s := store(t, d.order(vars), room)
			roots := laid(t, s, d.functions(vars, 1))
			laid(t, s, []api.Func{truth.Var(0), truth.Not(truth.Var(vars - 1))})
			free := api.Handle(2)
			for s.Is(free) {
				free++
			}
			was, order := held(s), s.Order().All()
			for _, h := range []api.Handle{free, free + 1, 1 << 15, 1<<28 - 1, 1 << 28, math.MaxUint32} {
				for _, l := range [][]api.Handle{{h}, {h, h}, {0, h}, append(slices.Clone(roots), h), append([]api.Handle{h}, roots...), append(append([]api.Handle{1, h}, roots...), roots...)} {
					given := spare(l)
					if b, a, err := sift.Sift(s, given[:len(l)]); b != 0 || a != 0 || err != api.ErrNode {
						t.Fatalf("Sift(%d): %d, %d, %v", l, b, a, err)
					}
					if plan, err := sift.Plan(s, given[:len(l)]); len(plan) > 0 || err != api.ErrNode {
						t.Fatalf("Plan(%d): %v, %v", l, plan, err)
					}
					kept(t, given, l)
					unchanged(t, s, was, order)
				}
			}
			whole(t, s)
		}
	}
}

// P19.1, P19.2: what Sift took away is no node any more: of it ErrNode.
func TestGoneRoot(t *testing.T) {
	s := store(t, rising(3), 200)
	roots := laid(t, s, []api.Func{pair(0, 2), truth.Var(0), truth.Var(1), truth.Xor(truth.Var(0), truth.Var(1))})
	was := s.All()
	if _, _, err := sift.Sift(s, roots[:1]); err != api.OK {
		t.Fatal(err)
	}
	gone := slices.DeleteFunc(was, s.Is)
	left, order := held(s), s.Order().All()
	if len(gone) < 3 || len(left) != 2 {
		t.Fatalf("%d are gone, and %v are left", gone, left)
	}
	for _, h := range gone {
		if b, a, err := sift.Sift(s, []api.Handle{roots[0], h}); b != 0 || a != 0 || err != api.ErrNode {
			t.Errorf("Sift with %d: %d, %d, %v", h, b, a, err)
		}
		if l, err := sift.Plan(s, []api.Handle{h}); len(l) != 0 || err != api.ErrNode {
			t.Errorf("Plan of %d: %v, %v", h, l, err)
		}
		unchanged(t, s, left, order)
	}
}

// P19.2, P19.3: by hand: two pairs of variables lie far apart, and are brought together: six nodes become four. 1 goes to level 2, which is as good as 3; then nothing is less, and 2 and 0, each at its turn, go to the top, and 3 to level 2, which is as good as the one where it was.
func TestSiftByHand(t *testing.T) {
	for _, cached := range []bool{true, false} {
		s := store(t, rising(4), 200)
		s.Cached(cached)
		f := truth.Or(pair(0, 2), pair(1, 3))
		other := lay(t, s, truth.Xor(truth.Var(0), truth.Var(3)), 0)
		h := lay(t, s, f, 0)
		if l, err := sift.Plan(s, []api.Handle{h}); !slices.Equal(l, []int{1, 2, 0, 3}) || err != api.OK {
			t.Fatalf("Plan: %v, %v", l, err)
		}
		b, a, err := sift.Sift(s, []api.Handle{h})
		if b != 6 || a != 4 || err != api.OK || s.Len() != 4 {
			t.Fatalf("%d to %d, %v, %d nodes", b, a, err, s.Len())
		}
		if all := s.Order().All(); !slices.Equal(all, []int{0, 2, 3, 1}) {
			t.Errorf("order %v", all)
		}
		if function(s, h) != f || s.Is(other) && function(s, other) == truth.Xor(truth.Var(0), truth.Var(3)) {
			t.Errorf("%d is %x, and %d is %x", h, function(s, h), other, function(s, other))
		}
	}
}

// P19.2: of several levels that are as good it is the least one, also where the variable lies on another one of them already: a variable on which nothing hangs goes to the top.
func TestTies(t *testing.T) {
	for vars := 2; vars <= api.MaxVars; vars++ {
		for v := range vars {
			for _, order := range [][]int{rising(vars), falling(vars)} {
				s := store(t, order, 200)
				f := truth.Var(v)
				h := lay(t, s, f, 0)
				sifts(t, s, []api.Handle{h}, []api.Func{f})
				// It was the first of the plan, and all others went above it.
				if want := append(without(falling(vars), v), v); !slices.Equal(s.Order().All(), want) {
					t.Fatalf("order %v, want %v", s.Order().All(), want)
				}
			}
		}
	}
}

// P19.2, P19.3: each two functions of two variables, in both orders.
func TestAllOfTwo(t *testing.T) {
	for n := range uint64(256) {
		for _, order := range orders(2) {
			s := store(t, order, 400)
			s.Cached(n%2 == 0)
			l := []api.Func{truth.Restrict(api.Func{n & 15}, 0xfc, 0), truth.Restrict(api.Func{n >> 4}, 0xfc, 0)}
			roots := laid(t, s, l)
			plans(t, s, roots, l)
			sifts(t, s, roots, l)
		}
	}
}

// P19.2, P19.3: each function of three variables, in all orders.
func TestAllOfThree(t *testing.T) {
	for n := range uint64(256) {
		for i, order := range orders(3) {
			s := store(t, order, 200)
			s.Cached(i%2 == 0)
			l := []api.Func{truth.Restrict(api.Func{n}, 0xf8, 0)}
			sifts(t, s, laid(t, s, l), l)
		}
	}
}

// P19.2, P19.3: drawn functions of one to eight variables under drawn orders, among others that nobody holds: the order, both sizes, the roots' functions and what is left, held against a search over each place of each variable; and once more: nothing grows.
func TestSiftDrawn(t *testing.T) {
	shrunk := 0
	for vars := 1; vars <= api.MaxVars; vars++ {
		for round := range 20 {
			d := draw(40*vars + round)
			s := store(t, d.order(vars), 1200)
			s.Cached(round%2 == 0)
			laid(t, s, d.functions(vars, d.next(4)))
			l := d.functions(vars, 1+round%4)
			roots := laid(t, s, l)
			laid(t, s, d.functions(vars, d.next(4)))
			b, a := sifts(t, s, roots, l)
			if a < b {
				shrunk++
			}
			if again, last := sifts(t, s, roots, l); again != a || last > again {
				t.Fatalf("%d to %d, and then %d to %d", b, a, again, last)
			}
		}
	}
	if shrunk < 40 {
		t.Errorf("just %d of them became less", shrunk)
	}
}

// P19.2, P19.3: pairs of variables far apart are brought together: what doubles with each pair grows by two a pair then.
func TestPairsFarApart(t *testing.T) {
	for pairs := 2; pairs <= api.MaxVars/2; pairs++ {
		for round := range 6 {
			d := draw(pairs + 10*round)
			var f api.Func
			for v := range pairs {
				f = truth.Or(f, pair(v, v+pairs))
			}
			if round%2 == 1 {
				f = truth.Not(f)
			}
			order := rising(2 * pairs)
			if round > 1 {
				order = append(d.order(pairs), d.order(pairs)...)
				for i := range pairs {
					order[pairs+i] += pairs
				}
			}
			s := store(t, order, 200)
			b, a := sifts(t, s, laid(t, s, []api.Func{f}), []api.Func{f})
			if b != 1<<(pairs+1)-2 || a != 2*pairs {
				t.Errorf("%d pairs in order %v: %d to %d", pairs, order, b, a)
			}
		}
	}
}

// P19.2: of two unlike roots both count, and of a root that is named again, of a constant, and of a root's child none more.
func TestRootsNamedAgain(t *testing.T) {
	for vars := 1; vars <= api.MaxVars; vars++ {
		for round := range 6 {
			d := draw(7*vars + round)
			l := d.functions(vars, 2)
			s := store(t, d.order(vars), 800)
			roots := laid(t, s, l)
			low, high := s.Low(roots[0]), s.High(roots[1])
			roots = append(roots, low, 1, roots[1], 0, high, roots[0], low)
			l = append(l, function(s, low), truth.Const(true), l[1], truth.Const(false), function(s, high), l[0], function(s, low))
			plans(t, s, roots, l)
			sifts(t, s, roots, l)
		}
	}
}

// refused fails unless Sift of roots, of that many unlike ones above 1, is refused for room: it collects, and leaves the order and all that is reached as they were.
func refused(t *testing.T, s *nodes.Store, roots []api.Handle) {
	t.Helper()
	want, order, given := below(s, roots), s.Order().All(), spare(roots)
	if b, a, err := sift.Sift(s, given[:len(roots)]); b != 0 || a != 0 || err != api.ErrFull {
		t.Fatalf("Sift of %d roots in room for %d: %d, %d, %v", len(roots), s.Room(), b, a, err)
	}
	kept(t, given, roots)
	unchanged(t, s, want, order)
	whole(t, s)
}

// unlike draws functions until so many unlike ones are there, none of them a constant.
func unlike(d *draw, vars, many int) []api.Func {
	var l []api.Func
	for len(l) < many {
		if f := d.function(vars); truth.Support(f) != 0 && !slices.Contains(l, f) {
			l = append(l, f)
		}
	}
	return l
}

// P19.2: where Room is just the store's, they are sifted; where it is one more, ErrFull: what isn't reached is gone, and the order stays; a root named again asks for no more room.
func TestJustRoom(t *testing.T) {
	for vars := 3; vars <= api.MaxVars; vars++ {
		for many := 1; many <= 3; many++ {
			for more := -1; more <= 1; more++ {
				d := draw(20*vars + 5*many + more)
				order := d.order(vars)
				s := store(t, order, 200*many+more)
				l := unlike(&d, vars, many)
				laid(t, s, d.functions(vars, 1)[:min(1, s.Room()/200)])
				roots := laid(t, s, l)
				twice, both := append(append([]api.Handle{1}, roots...), roots...), append(append([]api.Func{truth.Const(true)}, l...), l...)
				if more < 0 {
					refused(t, s, twice)
					are(t, s, roots, l)
					continue
				}
				sifts(t, s, twice, both)
			}
		}
	}
}

// P19.2: of no roots, too, there must be room for 200: with less ErrFull, and all is gone, and the order stays.
func TestNoRootsWithoutRoom(t *testing.T) {
	for _, room := range []int{1, 2, 77, 199} {
		for _, roots := range [][]api.Handle{nil, {0, 1}} {
			s := store(t, []int{1, 0, 2}, room)
			lay(t, s, truth.Var(1), 0)
			if refused(t, s, roots); s.Len() != 0 {
				t.Errorf("%d nodes", s.Len())
			}
		}
	}
}

// P19.2: a store in which as much is held as can be, of just so much room as Room asks for, full of other nodes: no exchange of levels lacks room on the way.
func TestFullStore(t *testing.T) {
	for many := 1; many <= 4; many++ {
		for round := range 4 {
			d := draw(many + 10*round)
			s := store(t, d.order(api.MaxVars), 200*many)
			s.Cached(round%2 == 0)
			var l []api.Func
			for range many {
				var f api.Func
				for x := range 256 {
					f[x/64] |= uint64(d.next(2)) << (x % 64)
				}
				l = append(l, f)
			}
			roots := laid(t, s, l)
			for level := 7; s.Len() < s.Room(); level = max(level-1, 0) {
				known := append([]api.Handle{0, 1}, s.All()...)
				for range 200 {
					low, high := known[d.next(len(known))], known[d.next(len(known))]
					s.Mk(min(level, s.Level(low)-1, s.Level(high)-1), low, high)
				}
			}
			if b, _ := sifts(t, s, roots, l); many == 1 && b < 70 {
				t.Errorf("just %d nodes", b)
			}
		}
	}
}

// P19.2, P19.3: a great store, with as many roots as there may be in it, and nodes that nobody holds up to its room; one root more is refused.
func TestGreatStore(t *testing.T) {
	const many = api.MaxSlots / 200
	d := draw(77)
	s := store(t, d.order(api.MaxVars), api.MaxSlots)
	x := truth.Var
	var l []api.Func
	for i := range many + 1 {
		f := truth.Or(pair(i%8, (i+3)%8), truth.And(x((i+5)%8), truth.Not(x((i+2)%8))))
		for f = truth.Xor(f, x(i/8%8)); slices.Contains(l, f); {
			f = truth.Ite(x(d.next(8)), truth.Fix(f, d.next(8), true), truth.Xor(f, x(d.next(8))))
		}
		l = append(l, f)
	}
	roots := laid(t, s, l)
	for s.Len() < s.Room()-77 {
		lay(t, s, d.function(api.MaxVars), 0)
	}
	if n := sift.Room(roots); n != 200*(many+1) {
		t.Fatalf("Room of %d roots: %d", len(roots), n)
	}
	sifts(t, s, roots[:many], l[:many])
	last := lay(t, s, l[many], 0)
	refused(t, s, append(slices.Clone(roots[:many]), last))
}

// operated is what layer 11 tells of three handles.
func operated(t *testing.T, s *nodes.Store, l []api.Handle) []api.Handle {
	t.Helper()
	not, first := logic.Not(s, l[0])
	and, second := logic.And(s, not, l[1])
	xor, third := logic.Xor(s, and, l[2])
	ite, fourth := logic.Ite(s, xor, l[0], l[1])
	if first+second+third+fourth != api.OK {
		t.Fatalf("%v, %v, %v, %v", first, second, third, fourth)
	}
	return []api.Handle{not, and, xor, ite}
}

// P19.2: operations behind a Sift tell the same handles as ahead of it, where these are held; with the cache on and off, and changed on the way. Where they aren't held, they mean the same.
func TestOperationsBehind(t *testing.T) {
	for vars := 1; vars <= api.MaxVars; vars++ {
		for round := range 8 {
			d := draw(90*vars + round)
			s := store(t, d.order(vars), 3000)
			s.Cached(round%2 == 0)
			l := d.functions(vars, 3)
			roots := laid(t, s, l)
			told := operated(t, s, roots)
			for _, h := range told {
				l = append(l, function(s, h))
			}
			for range 3 {
				all := append(slices.Clone(roots), told...)
				sifts(t, s, all, l)
				s.Cached(d.next(2) == 0)
				if got := operated(t, s, roots); !slices.Equal(got, told) {
					t.Fatalf("order %v: %d, ahead of it %d", s.Order().All(), got, told)
				}
			}
			sifts(t, s, roots, l[:3])
			for i, h := range operated(t, s, roots) {
				if function(s, h) != l[3+i] {
					t.Fatalf("order %v: %x, want %x", s.Order().All(), function(s, h), l[3+i])
				}
			}
		}
	}
}

// P19.2: what was made on the way is gone, and its room is there: a store may be filled, sifted and filled again.
func TestRoomIsThere(t *testing.T) {
	for round := range 4 {
		d := draw(round)
		s := store(t, rising(6), 400)
		s.Cached(round%2 == 0)
		for range 5 {
			l := unlike(&d, 6, 2)
			roots := laid(t, s, l)
			sifts(t, s, roots, l)
			for s.Len() < s.Room() {
				known := append([]api.Handle{0, 1}, s.All()...)
				low, high := known[d.next(len(known))], known[d.next(len(known))]
				s.Mk(min(s.Level(low), s.Level(high))-1, low, high)
			}
			are(t, s, roots, l)
			if sifts(t, s, roots, l); s.Len() > 2*api.Inner {
				t.Fatalf("%d nodes", s.Len())
			}
			refused(t, s, append(slices.Clone(roots), lay(t, s, unlike(&d, 6, 1)[0], 0), lay(t, s, truth.Xor(l[0], truth.Var(5)), 0)))
			sifts(t, s, nil, nil)
		}
	}
}

// DOC.md's rule 6: stores don't know of one another: what is sifted in one changes nothing of the other one, and an order that was told ahead of it is left as it was.
func TestTwoStores(t *testing.T) {
	d := draw(9)
	f := truth.Or(pair(0, 3), truth.Or(pair(1, 4), pair(2, 5)))
	l := []api.Func{f, d.function(6)}
	s, o := store(t, rising(6), 400), store(t, rising(6), 600)
	roots, others := laid(t, s, l), laid(t, o, l)
	was, told := held(o), s.Order()
	sifts(t, s, roots, l)
	unchanged(t, o, was, rising(6))
	whole(t, o)
	if !slices.Equal(told.All(), rising(6)) || slices.Equal(s.Order().All(), rising(6)) {
		t.Errorf("the order of then is %v, now it is %v", told.All(), s.Order().All())
	}
	was, order := held(s), s.Order().All()
	sifts(t, o, others[1:], l[1:])
	unchanged(t, s, was, order)
	are(t, s, roots, l)
}

// DOC.md's rule 6: the same calls, the same answers, handles and order, with the cache and without, and in whatever turn the roots are named.
func TestSameAgain(t *testing.T) {
	d := draw(3)
	l := d.functions(7, 4)
	var first *nodes.Store
	for round := range 8 {
		s := store(t, rising(7), 3000)
		s.Cached(round%2 == 0)
		roots := laid(t, s, l)
		if round%4 > 1 {
			slices.Reverse(roots)
		}
		sift.Sift(s, roots)
		laid(t, s, l[:2])
		sift.Sift(s, roots[1:3])
		if round == 0 {
			first = s // it is what the others are held against
		}
		unchanged(t, s, held(first), first.Order().All())
	}
}
