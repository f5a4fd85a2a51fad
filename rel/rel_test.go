package rel_test

import (
	"fmt"
	"maps"
	"math"
	"slices"
	"testing"

	"spinney/api"
	"spinney/logic"
	"spinney/nodes"
	"spinney/rel"
	"spinney/truth"
)

// great are handles that no store gives out: from 2^28 on, those among them of which the lowest 28 bits are a constant's or a node's.
var great = []api.Handle{1 << 28, 1<<28 + 1, 1<<28 + 2, 1<<28 + 3, 1 << 29, 1<<31 - 1, 1 << 31, 1<<31 + 2, math.MaxUint32 - 1, math.MaxUint32}

// evens are the numbers of variables that a relation may have.
var evens = []int{2, 4, 6, 8}

// odds are those that it may not have.
var odds = []int{1, 3, 5, 7}

// store makes a store.
func store(t *testing.T, vars, room int) *nodes.Store {
	t.Helper()
	s, err := nodes.New(vars, room)
	if err != api.OK {
		t.Fatalf("New(%d, %d): %v", vars, room, err)
	}
	return s
}

// triple is what an inner node is made of.
type triple struct {
	level     int
	low, high api.Handle
}

// held is all inner nodes of s.
func held(s *nodes.Store) map[api.Handle]triple {
	m := map[api.Handle]triple{}
	for _, h := range s.All() {
		m[h] = triple{s.Level(h), s.Low(h), s.High(h)}
	}
	return m
}

// function is the table of the node's function, by walks down to a constant at all assignments.
func function(s *nodes.Store, h api.Handle) api.Func {
	o := s.Order()
	return table(func(x int) bool {
		at := h
		for at > 1 {
			if x>>o.Var(s.Level(at))&1 == 1 {
				at = s.High(at)
			} else {
				at = s.Low(at)
			}
		}
		return at == 1
	})
}

// table is the function that is true where is tells so.
func table(is func(x int) bool) api.Func {
	var f api.Func
	for x := range 256 {
		if is(x) {
			f[x/64] |= 1 << (x % 64)
		}
	}
	return f
}

// laid makes the node of f by Mk alone, the nodes of f and no others.
func laid(t *testing.T, s *nodes.Store, f api.Func) api.Handle {
	t.Helper()
	var down func(f api.Func, level int) api.Handle
	down = func(f api.Func, level int) api.Handle {
		if level == s.Vars() {
			return api.Handle(f[0] & 1)
		}
		v := s.Order().Var(level)
		h, err := s.Mk(level, down(truth.Fix(f, v, false), level+1), down(truth.Fix(f, v, true), level+1))
		if err != api.OK {
			t.Fatalf("no room for %x: %v", f, err)
		}
		return h
	}
	return down(f, 0)
}

// states is how many states so many variables have.
func states(vars int) int { return 1 << (vars / 2) }

// side is the state that the current variables (0), or the next ones (1), of so many tell at assignment x.
func side(x, which, vars int) int {
	state := 0
	for i := range vars / 2 {
		state |= x >> (2*i + which) & 1 << i
	}
	return state
}

// set is a set of states, a bit for each.
type set uint32

func (p set) has(state int) bool { return p>>state&1 == 1 }

// every is the set of all states.
func every(vars int) set { return 1<<states(vars) - 1 }

// table is the function of the set, told by the current variables.
func (p set) table(vars int) api.Func {
	return table(func(x int) bool { return p.has(side(x, 0, vars)) })
}

// setOf is the set that a function tells by the current variables, the next ones being 0.
func setOf(f api.Func, vars int) set {
	var p set
	for x := range 1 << vars {
		if side(x, 1, vars) == 0 && truth.Eval(f, uint8(x)) {
			p |= 1 << side(x, 0, vars)
		}
	}
	return p
}

// arrows is a relation: of each state the states to which a step leads.
type arrows [16]set

// table is the function of the relation.
func (a arrows) table(vars int) api.Func {
	return table(func(x int) bool { return a[side(x, 0, vars)].has(side(x, 1, vars)) })
}

// arrowsOf is the relation that a function is.
func arrowsOf(f api.Func, vars int) arrows {
	var a arrows
	for x := range 1 << vars {
		if truth.Eval(f, uint8(x)) {
			a[side(x, 0, vars)] |= 1 << side(x, 1, vars)
		}
	}
	return a
}

// next is where a step leads to from p.
func (a arrows) next(p set) set {
	var q set
	for state, to := range a {
		if p.has(state) {
			q |= to
		}
	}
	return q
}

// prev is where a step begins that leads to p.
func (a arrows) prev(p set) set {
	var q set
	for state, to := range a {
		if to&p != 0 {
			q |= 1 << state
		}
	}
	return q
}

// follow is all that follows from p, gone state by state, and how many steps the farthest of them is off.
func (a arrows) follow(p set) (set, int) {
	far := map[int]int{}
	var row []int
	for state := range a {
		if p.has(state) {
			far[state] = 0
			row = append(row, state)
		}
	}
	farthest := 0
	for len(row) > 0 {
		at := row[0]
		row = row[1:]
		p |= 1 << at
		farthest = max(farthest, far[at])
		for to := range a {
			if _, met := far[to]; a[at].has(to) && !met {
				far[to] = far[at] + 1
				row = append(row, to)
			}
		}
	}
	return p, farthest
}

// call is one of the calls with its arguments, and what it means: a function, and how many times something was new (0 of all but Reach).
type call struct {
	name  string
	s     *nodes.Store
	do    func() (api.Handle, int, api.Errno)
	means func() (api.Func, int)
}

// ofNext is a call of Next.
func ofNext(s *nodes.Store, states, relation api.Handle) call {
	return call{
		fmt.Sprintf("Next(%d, %d)", states, relation), s,
		func() (api.Handle, int, api.Errno) {
			h, err := rel.Next(s, states, relation)
			return h, 0, err
		},
		func() (api.Func, int) {
			p, a := setOf(function(s, states), s.Vars()), arrowsOf(function(s, relation), s.Vars())
			return a.next(p).table(s.Vars()), 0
		},
	}
}

// ofPrev is a call of Prev.
func ofPrev(s *nodes.Store, states, relation api.Handle) call {
	return call{
		fmt.Sprintf("Prev(%d, %d)", states, relation), s,
		func() (api.Handle, int, api.Errno) {
			h, err := rel.Prev(s, states, relation)
			return h, 0, err
		},
		func() (api.Func, int) {
			p, a := setOf(function(s, states), s.Vars()), arrowsOf(function(s, relation), s.Vars())
			return a.prev(p).table(s.Vars()), 0
		},
	}
}

// ofReach is a call of Reach.
func ofReach(s *nodes.Store, states, relation api.Handle) call {
	return call{
		fmt.Sprintf("Reach(%d, %d)", states, relation), s,
		func() (api.Handle, int, api.Errno) { return rel.Reach(s, states, relation) },
		func() (api.Func, int) {
			p, a := setOf(function(s, states), s.Vars()), arrowsOf(function(s, relation), s.Vars())
			all, times := a.follow(p)
			return all.table(s.Vars()), times
		},
	}
}

// ofPair is a call of Pair.
func ofPair(s *nodes.Store, from, to uint8) call {
	return call{
		fmt.Sprintf("Pair(%d, %d)", from, to), s,
		func() (api.Handle, int, api.Errno) {
			h, err := rel.Pair(s, from, to)
			return h, 0, err
		},
		func() (api.Func, int) {
			var a arrows
			a[from] = 1 << to
			return a.table(s.Vars()), 0
		},
	}
}

// steps are the calls that take states and a relation.
func steps() []func(s *nodes.Store, states, relation api.Handle) call {
	return []func(*nodes.Store, api.Handle, api.Handle) call{ofNext, ofPrev, ofReach}
}

// stays fails unless all nodes that were there are there, and the same.
func stays(t *testing.T, c call, was map[api.Handle]triple) {
	t.Helper()
	now := held(c.s)
	for h, k := range was {
		if now[h] != k {
			t.Fatalf("%s: node %d was %v, is %v", c.name, h, k, now[h])
		}
	}
	if c.s.Len() != len(now) || c.s.Len() > c.s.Room() {
		t.Fatalf("%s: Len %d of %d nodes in room for %d", c.name, c.s.Len(), len(now), c.s.Room())
	}
}

// answers makes a call and fails unless it answers the node of what it means, also when it is made again, or ErrFull with the store full then; what was there stays. It tells the answer, and whether there was one.
func answers(t *testing.T, c call) (api.Handle, bool) {
	t.Helper()
	was := held(c.s)
	want, times := c.means()
	h, n, err := c.do()
	stays(t, c, was)
	if err == api.ErrFull {
		if h != 0 || n != 0 || c.s.Len() != c.s.Room() {
			t.Fatalf("%s: %d, %d beside ErrFull, %d nodes in room for %d", c.name, h, n, c.s.Len(), c.s.Room())
		}
		return 0, false
	}
	if err != api.OK || !c.s.Is(h) || function(c.s, h) != want || n != times {
		t.Fatalf("%s: %d, %d, %v: %x, want %x, %d", c.name, h, n, err, function(c.s, h), want, times)
	}
	if again, n, err := c.do(); again != h || n != times || err != api.OK {
		t.Fatalf("%s again: %d, %d, %v, it was %d, %d", c.name, again, n, err, h, times)
	}
	stays(t, c, was)
	return h, true
}

// told is answers where there is room for whatever is made.
func told(t *testing.T, c call) api.Handle {
	t.Helper()
	h, ok := answers(t, c)
	if !ok {
		t.Fatalf("%s: ErrFull, %d nodes", c.name, c.s.Len())
	}
	return h
}

// refuses fails unless the call answers that error, and leaves all as it was.
func refuses(t *testing.T, c call, want api.Errno) {
	t.Helper()
	was := held(c.s)
	if h, n, err := c.do(); h != 0 || n != 0 || err != want {
		t.Fatalf("%s of %d variables: %d, %d, %v, want %v", c.name, c.s.Vars(), h, n, err, want)
	}
	if !maps.Equal(held(c.s), was) {
		t.Fatalf("%s: %v, it was %v", c.name, held(c.s), was)
	}
}

// fits fails unless Fits tells that, and leaves all as it was.
func fits(t *testing.T, s *nodes.Store, h api.Handle, want bool) {
	t.Helper()
	was := held(s)
	for range 2 {
		if got := rel.Fits(s, h); got != want {
			t.Fatalf("%d variables: Fits(%d): %t, want %t", s.Vars(), h, got, want)
		}
	}
	if !maps.Equal(held(s), was) {
		t.Fatalf("Fits(%d): %v, it was %v", h, held(s), was)
	}
}

// draw is a row of numbers without a pattern.
type draw uint64

func (d *draw) next(below int) int {
	*d = *d*6364136223846793005 + 1442695040888963407
	return int(uint64(*d) >> 33 % uint64(below))
}

// set draws a set of states, a great or a small one.
func (d *draw) set(vars int) set {
	var p set
	often := 1 + d.next(7)
	for state := range states(vars) {
		if d.next(8) < often {
			p |= 1 << state
		}
	}
	return p
}

// arrows draws a relation in which a state leads to several others, or hardly to one.
func (d *draw) arrows(vars int) arrows {
	var a arrows
	often := 1 + d.next(4*states(vars))
	for from := range states(vars) {
		for to := range states(vars) {
			if d.next(8*states(vars)) < often {
				a[from] |= 1 << to
			}
		}
	}
	return a
}

// turned draws the states in some order.
func (d *draw) turned(vars int) []int {
	l := make([]int, states(vars))
	for i := range l {
		l[i] = i
		j := d.next(i + 1)
		l[i], l[j] = l[j], l[i]
	}
	return l
}

// function draws a function of so many variables that hangs on those of mask alone, if on any.
func (d *draw) function(vars int, mask uint8) api.Func {
	f := table(func(int) bool { return d.next(2) == 0 })
	return truth.Restrict(f, ^mask|uint8(255<<vars), uint8(d.next(256)))
}

// pairs makes the relation of the steps from each state of l to the one behind it, by Pair and Or.
func pairs(t *testing.T, s *nodes.Store, l []int) api.Handle {
	t.Helper()
	all := api.False
	for i := range l[1:] {
		h, err := logic.Or(s, all, told(t, ofPair(s, uint8(l[i]), uint8(l[i+1]))))
		if err != api.OK {
			t.Fatalf("Or: %v", err)
		}
		all = h
	}
	return all
}

// alone makes the node of one state's set.
func alone(t *testing.T, s *nodes.Store, state int) api.Handle {
	t.Helper()
	return laid(t, s, (set(1) << state).table(s.Vars()))
}

// P16.1, P16.3: the chapter's example.
func TestExample(t *testing.T) {
	for _, vars := range evens {
		s := store(t, vars, 200)
		pair, err := rel.Pair(s, 0, 1)
		if err != api.OK {
			t.Fatalf("Pair(0, 1): %v", err)
		}
		if h, err := rel.Next(s, alone(t, s, 0), pair); h != alone(t, s, 1) || err != api.OK {
			t.Errorf("%d variables: Next of {0} by Pair(0, 1): %d, %v, want %d", vars, h, err, alone(t, s, 1))
		}
	}
}

// P16.1: the constants fit, and each variable's node just if it is even, also where the number of variables is odd.
func TestFitsVariables(t *testing.T) {
	for vars := 1; vars <= api.MaxVars; vars++ {
		s := store(t, vars, 2*vars)
		fits(t, s, 0, true)
		fits(t, s, 1, true)
		for v := range vars {
			fits(t, s, laid(t, s, truth.Var(v)), v%2 == 0)
			fits(t, s, laid(t, s, truth.Not(truth.Var(v))), v%2 == 0)
		}
	}
}

// P16.1: a function fits just if it hangs on even variables alone: all of those of up to three variables, drawn ones that hang on even ones, on odd ones, on both.
func TestFitsFunctions(t *testing.T) {
	for vars := 1; vars <= 3; vars++ {
		s := store(t, vars, 1<<(1<<vars))
		for n := range 1 << (1 << vars) {
			f := truth.Restrict(api.Func{uint64(n)}, uint8(255<<vars), 0)
			fits(t, s, laid(t, s, f), truth.Support(f)&0xaa == 0)
		}
	}
	for vars := 1; vars <= api.MaxVars; vars++ {
		d := draw(vars)
		s := store(t, vars, api.MaxSlots)
		for _, mask := range []uint8{0x55, 0xaa, 0xff, 0x11, 0x44, 0x15, 0x51, 0x08, 0x5d, 0xd5, 0x75, 0x57} {
			for range 6 {
				f := d.function(vars, mask)
				fits(t, s, laid(t, s, f), truth.Support(f)&0xaa == 0)
			}
		}
	}
}

// P16.1: what hangs on all even variables, and on one odd one at some place alone, doesn't fit.
func TestFitsButForOne(t *testing.T) {
	for _, vars := range evens {
		s := store(t, vars, 2000)
		for state := range states(vars) {
			f := (set(1) << state).table(vars)
			fits(t, s, laid(t, s, f), true)
			for v := 1; v < vars; v += 2 {
				fits(t, s, laid(t, s, truth.And(f, truth.Var(v))), false)
				fits(t, s, laid(t, s, truth.Or(f, truth.Not(truth.Var(v)))), false)
			}
		}
	}
}

// P16.1: what isn't a node doesn't fit, in a store that has room, in a full one, in an empty one.
func TestFitsNoNode(t *testing.T) {
	for vars := 1; vars <= api.MaxVars; vars++ {
		for _, room := range []int{1, 50} {
			s := store(t, vars, room)
			for _, n := range append([]api.Handle{2, 3, 99, 1<<28 - 1}, great...) {
				fits(t, s, n, false)
			}
			a := laid(t, s, truth.Var(0))
			fits(t, s, a, true)
			for _, n := range append([]api.Handle{a + 1, a + 2, 99, 1<<28 - 1}, great...) {
				fits(t, s, n, false)
			}
		}
	}
}

// P16.1, P16.2: what isn't a node is refused by ErrNode, as states, as the relation and as both; also where the states don't fit, and where the number of variables is odd; in a store that has room and in a full one.
func TestNoNode(t *testing.T) {
	for vars := 1; vars <= api.MaxVars; vars++ {
		for _, room := range []int{min(vars, 2), 50} {
			s := store(t, vars, room)
			known := []api.Handle{0, 1, laid(t, s, truth.Var(0))}
			if vars > 1 {
				known = append(known, laid(t, s, truth.Var(1)))
			}
			last := known[len(known)-1]
			for _, n := range append([]api.Handle{last + 1, last + 2, 99, 1<<28 - 1}, great...) {
				for _, of := range steps() {
					for _, other := range append([]api.Handle{n, n + 7}, known...) {
						refuses(t, of(s, n, other), api.ErrNode)
						refuses(t, of(s, other, n), api.ErrNode)
					}
				}
			}
		}
	}
}

// P16.1, P16.2: of an empty store the constants alone are nodes, and are taken.
func TestEmptyStore(t *testing.T) {
	for _, vars := range evens {
		s := store(t, vars, 1)
		for _, of := range steps() {
			for _, n := range append([]api.Handle{2, 3}, great...) {
				refuses(t, of(s, n, 1), api.ErrNode)
				refuses(t, of(s, 1, n), api.ErrNode)
			}
			for a := range api.Handle(2) {
				for b := range api.Handle(2) {
					told(t, of(s, a, b))
				}
			}
		}
		if s.Len() != 0 {
			t.Errorf("%d variables: %d nodes of constants", vars, s.Len())
		}
	}
}

// P16.1, P16.2: where the number of variables is odd all states are refused, those that fit too, the constants too, whatever the relation is.
func TestOddVariables(t *testing.T) {
	for _, vars := range odds {
		for _, room := range []int{vars, 2000} {
			s := store(t, vars, room)
			known := []api.Handle{0, 1}
			for v := range vars {
				known = append(known, laid(t, s, truth.Var(v)))
			}
			for _, of := range steps() {
				for _, a := range known {
					for _, b := range known {
						refuses(t, of(s, a, b), api.ErrRel)
					}
				}
			}
		}
	}
}

// P16.1, P16.2: states that hang on an odd variable are refused, whatever the relation is, those among them by which it would lead nowhere; the relation may hang on any variable.
func TestStatesThatDontFit(t *testing.T) {
	for _, vars := range evens {
		d := draw(vars + 20)
		s := store(t, vars, api.MaxSlots)
		relations := []api.Handle{0, 1, laid(t, s, d.function(vars, 0xff))}
		for v := range vars {
			relations = append(relations, laid(t, s, truth.Var(v)))
		}
		for _, b := range relations {
			for v := range vars {
				a := laid(t, s, truth.Var(v))
				both := laid(t, s, truth.Xor(truth.Var(v), truth.Var(v^1)))
				for _, of := range steps() {
					refuses(t, of(s, both, b), api.ErrRel)
					if v%2 == 1 {
						refuses(t, of(s, a, b), api.ErrRel)
					} else {
						told(t, of(s, a, b))
					}
				}
			}
		}
	}
}

// P16.1, P16.2: of two variables all sets of states by all relations.
func TestAllOfTwo(t *testing.T) {
	for p := range set(4) {
		for n := range 16 {
			for _, of := range steps() {
				s := store(t, 2, 100)
				told(t, of(s, laid(t, s, p.table(2)), laid(t, s, truth.Restrict(api.Func{uint64(n)}, 0xfc, 0))))
			}
		}
	}
}

// P16.1, P16.2: of four variables all sets of states by drawn relations.
func TestAllSetsOfFour(t *testing.T) {
	d := draw(4)
	for round := range 60 {
		s := store(t, 4, 3000)
		s.Cached(round%2 == 0)
		b := laid(t, s, d.arrows(4).table(4))
		for p := range set(16) {
			for _, of := range steps() {
				told(t, of(s, laid(t, s, p.table(4)), b))
			}
		}
	}
}

// P16.1: Next and Prev are truth's, of drawn states and relations, with the cache and without, each call in a store of its own, so that no answer is there by another one.
func TestAgainstTruth(t *testing.T) {
	for _, vars := range evens {
		d := draw(vars + 40)
		for round := range 80 {
			f, g := d.set(vars).table(vars), d.arrows(vars).table(vars)
			if round%4 == 0 {
				f, g = d.function(vars, 0x55), d.function(vars, 0xff)
			}
			for i, want := range []api.Func{truth.Next(f, g), truth.Prev(f, g)} {
				s := store(t, vars, 3000)
				s.Cached(round%2 == 0)
				h := told(t, steps()[i](s, laid(t, s, f), laid(t, s, g)))
				if function(s, h) != want || h != laid(t, s, want) {
					t.Fatalf("%d variables: call %d of %x by %x: %x, truth's %x", vars, i, f, g, function(s, h), want)
				}
				fits(t, s, h, true)
			}
		}
	}
}

// P16.1, P16.2: of no states, of all, by the empty relation and by the full one.
func TestConstants(t *testing.T) {
	for _, vars := range evens {
		d := draw(vars + 60)
		s := store(t, vars, api.MaxSlots)
		var begin, end, some set
		a := d.arrows(vars)
		some = d.set(vars)&(every(vars)-1) | 2
		for from := range states(vars) {
			if a[from] != 0 {
				begin |= 1 << from
			}
			end |= a[from]
		}
		b, p := laid(t, s, a.table(vars)), laid(t, s, some.table(vars))
		for _, e := range []struct {
			name string
			c    call
			want set
		}{
			{"Next of none", ofNext(s, 0, b), 0},
			{"Prev of none", ofPrev(s, 0, b), 0},
			{"Reach of none", ofReach(s, 0, b), 0},
			{"Next of all", ofNext(s, 1, b), end},
			{"Prev of all", ofPrev(s, 1, b), begin},
			{"Reach of all", ofReach(s, 1, b), every(vars)},
			{"Next by none", ofNext(s, p, 0), 0},
			{"Prev by none", ofPrev(s, p, 0), 0},
			{"Reach by none", ofReach(s, p, 0), some},
			{"Next by all", ofNext(s, p, 1), every(vars)},
			{"Prev by all", ofPrev(s, p, 1), every(vars)},
			{"Reach by all", ofReach(s, p, 1), every(vars)},
		} {
			if h := told(t, e.c); h != laid(t, s, e.want.table(vars)) {
				t.Errorf("%d variables: %s: %x, want %x", vars, e.name, setOf(function(s, h), vars), e.want)
			}
		}
	}
}

// P16.1, P16.2: relations that hang on some variables alone: on the current ones, on the next ones, on one pair, on one variable, on one of each of two pairs.
func TestRelationsOfSome(t *testing.T) {
	for _, vars := range evens {
		d := draw(vars + 80)
		for _, mask := range []uint8{0x55, 0xaa, 0x03, 0x0c, 0x30, 0xc0, 0x01, 0x02, 0x40, 0x80, 0x06, 0x09, 0x99, 0x66, 0xf0} {
			for range 4 {
				s := store(t, vars, api.MaxSlots)
				b := laid(t, s, d.function(vars, mask))
				for _, of := range steps() {
					told(t, of(s, laid(t, s, d.set(vars).table(vars)), b))
					told(t, of(s, laid(t, s, d.function(vars, 0x55&uint8(d.next(256)))), b))
				}
			}
		}
	}
}

// P16.1, P16.2: by the relation in which each state leads to itself, states lead to themselves and nothing is new; by that of a variable turned round they lead to and fro.
func TestSelf(t *testing.T) {
	for _, vars := range evens {
		d := draw(vars + 100)
		s := store(t, vars, api.MaxSlots)
		var self, other arrows
		for state := range states(vars) {
			self[state], other[state] = 1<<state, 1<<(state^1)
		}
		b, c := laid(t, s, self.table(vars)), laid(t, s, other.table(vars))
		for range 10 {
			p := laid(t, s, d.set(vars).table(vars))
			for _, of := range steps() {
				if h := told(t, of(s, p, b)); h != p {
					t.Fatalf("%s where each leads to itself: %d", of(s, p, b).name, h)
				}
			}
			if h := told(t, ofNext(s, told(t, ofNext(s, p, c)), c)); h != p {
				t.Fatalf("to and fro %d is %d", p, h)
			}
			if next, prev := told(t, ofNext(s, p, c)), told(t, ofPrev(s, p, c)); next != prev {
				t.Fatalf("to %d, fro %d", next, prev)
			}
		}
	}
}

// P16.1: Prev by a relation is Next by the one whose steps go the other way.
func TestOtherWay(t *testing.T) {
	for _, vars := range evens {
		d := draw(vars + 120)
		for range 20 {
			s := store(t, vars, 3000)
			a := d.arrows(vars)
			var other arrows
			for from, l := range a {
				for to := range states(vars) {
					if l.has(to) {
						other[to] |= 1 << from
					}
				}
			}
			p, b, c := laid(t, s, d.set(vars).table(vars)), laid(t, s, a.table(vars)), laid(t, s, other.table(vars))
			if prev, next := told(t, ofPrev(s, p, b)), told(t, ofNext(s, p, c)); prev != next {
				t.Fatalf("Prev %d, Next the other way %d", prev, next)
			}
		}
	}
}

// P16.3, P16.1: Pair of each two states is the one step from the one to the other: Next of the one is the other, Prev of the other is the one, and from and to the others there is none.
func TestPairs(t *testing.T) {
	for _, vars := range evens {
		s := store(t, vars, api.MaxSlots)
		for from := range states(vars) {
			for to := range states(vars) {
				pair := told(t, ofPair(s, uint8(from), uint8(to)))
				if truth.Support(function(s, pair)) != uint8(255>>(8-vars)) || truth.Count(function(s, pair)) != 256>>vars {
					t.Fatalf("Pair(%d, %d) is no cube of all variables", from, to)
				}
				for state := range states(vars) {
					next, prev := api.False, api.False
					if state == from {
						next = alone(t, s, to)
					}
					if state == to {
						prev = alone(t, s, from)
					}
					if states(vars) > 4 && next+prev == 0 && state%5 != (from+to)%5 {
						continue
					}
					h := alone(t, s, state)
					if is, err := rel.Next(s, h, pair); is != next || err != api.OK {
						t.Fatalf("Next of %d by Pair(%d, %d): %d, %v, want %d", state, from, to, is, err, next)
					}
					if is, err := rel.Prev(s, h, pair); is != prev || err != api.OK {
						t.Fatalf("Prev of %d by Pair(%d, %d): %d, %v, want %d", state, from, to, is, err, prev)
					}
				}
			}
		}
	}
}

// P16.3: a state from Vars / 2 on is refused, in from, in to, in both; the bit alone, and beside others; in a store that has room and in a full one; all below are taken.
func TestPairNoState(t *testing.T) {
	for _, vars := range evens {
		s, full := store(t, vars, api.MaxSlots), store(t, vars, 1)
		laid(t, full, truth.Var(0))
		for from := range 256 {
			for to := range 256 {
				switch {
				case from < states(vars) && to < states(vars):
					told(t, ofPair(s, uint8(from), uint8(to)))
				case (from*31+to)%7 == 0 || from&(from-1) == 0 || to&(to-1) == 0:
					for _, s := range []*nodes.Store{s, full} {
						if h, err := rel.Pair(s, uint8(from), uint8(to)); h != 0 || err != api.ErrVar {
							t.Fatalf("%d variables: Pair(%d, %d): %d, %v", vars, from, to, h, err)
						}
					}
				}
			}
		}
		n := states(vars)
		for _, e := range [][2]int{{n, 0}, {0, n}, {n, n}, {n, n - 1}, {n - 1, n}, {128, 0}, {0, 128}, {255, 255}} {
			empty := store(t, vars, 50)
			refuses(t, ofPair(empty, uint8(e[0]), uint8(e[1])), api.ErrVar)
			refuses(t, ofPair(s, uint8(e[0]), uint8(e[1])), api.ErrVar)
		}
	}
}

// P16.3: where the number of variables is odd all are refused by ErrRel, what is no state too.
func TestPairOdd(t *testing.T) {
	for _, vars := range odds {
		for _, room := range []int{1, 50} {
			s := store(t, vars, room)
			for _, l := range [][2]uint8{{0, 0}, {1, 0}, {0, 1}, {1, 1}, {3, 2}, {4, 0}, {0, 8}, {16, 0}, {0, 16}, {128, 0}, {0, 128}, {255, 255}} {
				refuses(t, ofPair(s, l[0], l[1]), api.ErrRel)
			}
		}
	}
}

// P16.3: the pairs of a relation, or-ed, are the relation.
func TestPairsOred(t *testing.T) {
	for _, vars := range evens {
		d := draw(vars + 140)
		for range 5 {
			s := store(t, vars, api.MaxSlots)
			a := d.arrows(vars)
			all := api.False
			for from := range states(vars) {
				for to := range states(vars) {
					if a[from].has(to) {
						pair, first := rel.Pair(s, uint8(from), uint8(to))
						both, second := logic.Or(s, all, pair)
						if first+second != api.OK {
							t.Fatalf("Pair: %v, Or: %v", first, second)
						}
						all = both
					}
				}
			}
			if want := laid(t, s, a.table(vars)); all != want {
				t.Fatalf("%d variables: %d of pairs, %d of the table", vars, all, want)
			}
		}
	}
}

// reaches has Reach expected of states and a relation, and fails unless it is that, so many times new.
func reaches(t *testing.T, s *nodes.Store, p, b, want api.Handle, times int) {
	t.Helper()
	told(t, ofReach(s, p, b))
	if h, n, err := rel.Reach(s, p, b); h != want || n != times || err != api.OK {
		t.Fatalf("%d variables: Reach(%d, %d): %d, %d, %v, want %d, %d", s.Vars(), p, b, h, n, err, want, times)
	}
}

// P16.2: a chain of all states, in several orders: from each of them all that lie behind it, each at its time; the last one leads nowhere; from the first and another one at once the times are those of the longest way.
func TestChain(t *testing.T) {
	for _, vars := range evens {
		d := draw(vars + 160)
		n := states(vars)
		for round := range 4 {
			s := store(t, vars, api.MaxSlots)
			s.Cached(round%2 == 0)
			l := d.turned(vars)
			if round == 0 {
				slices.Sort(l)
			}
			b := pairs(t, s, l)
			var behind set
			for i := n - 1; i >= 0; i-- {
				behind |= 1 << l[i]
				reaches(t, s, alone(t, s, l[i]), b, laid(t, s, behind.table(vars)), n-1-i)
			}
			for i := 1; i < n; i++ {
				p := laid(t, s, (set(1)<<l[0] | set(1)<<l[i]).table(vars))
				reaches(t, s, p, b, 1, max(i-1, n-1-i))
			}
		}
	}
}

// P16.2: a ring of all states: from each of them all, the last one at its time; a ring of half of them beside the others.
func TestRing(t *testing.T) {
	for _, vars := range evens {
		d := draw(vars + 180)
		n := states(vars)
		s := store(t, vars, api.MaxSlots)
		l := d.turned(vars)
		b := pairs(t, s, append(slices.Clone(l), l[0]))
		for _, state := range l {
			reaches(t, s, alone(t, s, state), b, 1, n-1)
		}
		half := pairs(t, s, append(slices.Clone(l[:n/2]), l[0]))
		var ring set
		for _, state := range l[:n/2] {
			ring |= 1 << state
		}
		for i, state := range l {
			p := alone(t, s, state)
			if i < n/2 {
				reaches(t, s, p, half, laid(t, s, ring.table(vars)), n/2-1)
			} else {
				reaches(t, s, p, half, p, 0)
			}
		}
	}
}

// P16.2: by the full relation all is reached at once, if there is a state to begin at, and nothing is new where all are there already; by the empty one nothing is new.
func TestReachByConstants(t *testing.T) {
	for _, vars := range evens {
		s := store(t, vars, api.MaxSlots)
		for state := range states(vars) {
			p := alone(t, s, state)
			reaches(t, s, p, 1, 1, 1)
			reaches(t, s, p, 0, p, 0)
			but := laid(t, s, truth.Not((set(1) << state).table(vars)))
			reaches(t, s, but, 1, 1, 1)
			reaches(t, s, but, 0, but, 0)
		}
		for b := range api.Handle(2) {
			reaches(t, s, 0, b, 0, 0)
			reaches(t, s, 1, b, 1, 0)
		}
	}
}

// P16.2: what is reached is what one has of truth's Next and Or, until nothing is new, and as many times.
func TestReachAgainstTruth(t *testing.T) {
	longest := 0
	for _, vars := range evens {
		d := draw(vars + 200)
		for round := range 60 {
			f, g := d.set(vars).table(vars), d.arrows(vars).table(vars)
			want, times := f, 0
			for more := truth.Or(want, truth.Next(want, g)); more != want; more = truth.Or(want, truth.Next(want, g)) {
				want, times = more, times+1
			}
			s := store(t, vars, api.MaxSlots)
			s.Cached(round%2 == 0)
			p, b := laid(t, s, f), laid(t, s, g)
			reaches(t, s, p, b, laid(t, s, want), times)
			longest = max(longest, times)
		}
	}
	if longest < 4 {
		t.Errorf("something was new %d times at most", longest)
	}
}

// P16.4: what is reached holds the states and all that follows from it, state by state, and nothing else; it fits, its Next is within it, and from it nothing new is reached.
func TestReachedHoldsAll(t *testing.T) {
	for _, vars := range evens {
		d := draw(vars + 220)
		for round := range 40 {
			s := store(t, vars, api.MaxSlots)
			p, a := d.set(vars), d.arrows(vars)
			if round%2 == 0 {
				p = 1 << d.next(states(vars))
			}
			start, b := laid(t, s, p.table(vars)), laid(t, s, a.table(vars))
			all, _, err := rel.Reach(s, start, b)
			if err != api.OK {
				t.Fatalf("Reach: %v", err)
			}
			fits(t, s, all, true)
			reached := setOf(function(s, all), vars)
			if p&^reached != 0 {
				t.Fatalf("%x isn't within %x", p, reached)
			}
			for from := range states(vars) {
				if reached.has(from) && a[from]&^reached != 0 {
					t.Fatalf("%x reached, and %d leads to %x", reached, from, a[from])
				}
			}
			if want, _ := a.follow(p); reached != want {
				t.Fatalf("%x reached from %x, want %x", reached, p, want)
			}
			next, first := rel.Next(s, all, b)
			both, second := logic.Or(s, all, next)
			if both != all || first+second != api.OK {
				t.Fatalf("Next of what is reached is new: %d, %v, %v", both, first, second)
			}
			reaches(t, s, all, b, all, 0)
		}
	}
}

// P16.4: of two sets at once is reached what is reached of the one and of the other; of more, and by more steps, no less.
func TestReachedOfBoth(t *testing.T) {
	for _, vars := range evens {
		d := draw(vars + 240)
		for range 15 {
			s := store(t, vars, api.MaxSlots)
			p, q, a := d.set(vars), d.set(vars), d.arrows(vars)
			b := laid(t, s, a.table(vars))
			one, other := told(t, ofReach(s, laid(t, s, p.table(vars)), b)), told(t, ofReach(s, laid(t, s, q.table(vars)), b))
			both := told(t, ofReach(s, laid(t, s, (p|q).table(vars)), b))
			if or, err := logic.Or(s, one, other); or != both || err != api.OK {
				t.Fatalf("%d and %d are %d, %v, at once %d", one, other, or, err, both)
			}
			more := a
			more[d.next(states(vars))] |= 1 << d.next(states(vars))
			farther := told(t, ofReach(s, laid(t, s, p.table(vars)), laid(t, s, more.table(vars))))
			if or, err := logic.Or(s, one, farther); or != farther || err != api.OK {
				t.Fatalf("%d by more steps is %d", one, farther)
			}
		}
	}
}

// P16.1, P16.2, P16.3: many calls in one store, and what was answered is handed in again; the functions of all nodes are as they were.
func TestInOneStore(t *testing.T) {
	for _, vars := range evens {
		for _, cached := range []bool{true, false} {
			d := draw(vars + 260)
			s := store(t, vars, api.MaxSlots)
			s.Cached(cached)
			known := []api.Handle{0, 1, laid(t, s, d.set(vars).table(vars))}
			relations := []api.Handle{0, 1, laid(t, s, d.arrows(vars).table(vars))}
			was := map[api.Handle]api.Func{}
			for i := range 40 {
				relations = append(relations, told(t, ofPair(s, uint8(d.next(states(vars))), uint8(d.next(states(vars))))))
				// Sets of states are relations too, which begin at them.
				or, err := logic.Or(s, relations[d.next(len(relations))], relations[d.next(len(relations))])
				if err != api.OK {
					t.Fatalf("Or: %v", err)
				}
				relations = append(relations, or, known[d.next(len(known))])
				h := told(t, steps()[i%3](s, known[d.next(len(known))], relations[d.next(len(relations))]))
				known = append(known, h)
				for _, h := range append(slices.Clone(known), relations...) {
					if _, there := was[h]; !there {
						was[h] = function(s, h)
					}
				}
			}
			for h, f := range was {
				if function(s, h) != f {
					t.Fatalf("%d was %x, is %x", h, f, function(s, h))
				}
			}
		}
	}
}

// P16.1, P16.2, P16.3: the arguments are the functions that they were, also where states and relation are one node.
func TestArguments(t *testing.T) {
	for _, vars := range evens {
		d := draw(vars + 280)
		for range 10 {
			s := store(t, vars, api.MaxSlots)
			f, g := d.set(vars).table(vars), d.arrows(vars).table(vars)
			p, b := laid(t, s, f), laid(t, s, g)
			for _, of := range steps() {
				told(t, of(s, p, b))
				told(t, of(s, p, p))
			}
			if function(s, p) != f || function(s, b) != g {
				t.Fatalf("%x, %x, they were %x, %x", function(s, p), function(s, b), f, g)
			}
		}
	}
}

// call draws one of the calls, of functions that it lays.
func (d *draw) call(t *testing.T, s *nodes.Store, which int) call {
	t.Helper()
	vars := s.Vars()
	p, b := laid(t, s, d.set(vars).table(vars)), laid(t, s, d.arrows(vars).table(vars))
	if which%4 == 3 {
		return ofPair(s, uint8(d.next(states(vars))), uint8(d.next(states(vars))))
	}
	return steps()[which%4](s, p, b)
}

// P16.1, P16.2, P16.3: in every room from the arguments' own on: the right answer, or ErrFull with the store full then, and what was there stays; with room for all that is ever made, the answer.
func TestRoom(t *testing.T) {
	refused, answered := map[int]int{}, map[int]int{}
	for round := range 48 {
		vars, which := evens[round%4], round/4
		within := func(room int) call {
			d := draw(round + 600)
			s := store(t, vars, room)
			s.Cached(round%3 == 0)
			return d.call(t, s, which)
		}
		c := within(api.MaxSlots)
		have := max(c.s.Len(), 1)
		told(t, c)
		need := c.s.Len()
		for room := have; room <= need+1; room++ {
			if _, ok := answers(t, within(room)); ok {
				answered[which%4]++
			} else {
				refused[which%4]++
				if room >= need {
					t.Fatalf("%s: refused in room for %d, with %d made in much", c.name, room, need)
				}
			}
		}
	}
	for which := range 4 {
		if refused[which] < 20 || answered[which] < 12 {
			t.Errorf("call %d: %d refused, %d answered", which, refused[which], answered[which])
		}
	}
}

// P16.1, P16.2, P16.3: a store without any room left refuses what would be new, answers what needs nothing new, and refuses what can't be taken as ever.
func TestFull(t *testing.T) {
	s := store(t, 2, 3)
	p := laid(t, s, truth.Var(0))
	next := laid(t, s, truth.Var(1))
	laid(t, s, truth.Not(truth.Var(1)))
	if s.Len() != s.Room() {
		t.Fatalf("%d nodes in room for %d", s.Len(), s.Room())
	}
	for range 2 {
		if h := told(t, ofPrev(s, p, next)); h != 1 {
			t.Errorf("Prev of {1} where all lead to 1: %d", h)
		}
		if h := told(t, ofReach(s, p, 0)); h != p {
			t.Errorf("Reach of {1} by nothing: %d, want %d", h, p)
		}
		if h := told(t, ofNext(s, p, 1)); h != 1 {
			t.Errorf("Next of {1} by all: %d", h)
		}
		refuses(t, ofNext(s, p, next), api.ErrFull)
		refuses(t, ofReach(s, p, next), api.ErrFull)
		refuses(t, ofPair(s, 1, 1), api.ErrFull)
		for _, of := range steps() {
			refuses(t, of(s, next, p), api.ErrRel)
			refuses(t, of(s, 5, next), api.ErrNode)
			refuses(t, of(s, next, 5), api.ErrNode)
		}
		refuses(t, ofPair(s, 2, 0), api.ErrVar)
	}
}

// answer is what a call told.
type answer struct {
	h   api.Handle
	n   int
	err api.Errno
}

// row makes drawn calls, some of which there is no room for; ahead of each the cache is switched as hold tells. What was answered, in order, and all nodes behind it.
func row(t *testing.T, hold func(s *nodes.Store, i int)) ([]answer, map[api.Handle]triple) {
	t.Helper()
	d := draw(17)
	s := store(t, 6, 120)
	known := []api.Handle{1, laid(t, s, d.set(6).table(6)), laid(t, s, set(1).table(6))}
	relations := []api.Handle{1, laid(t, s, d.arrows(6).table(6)), laid(t, s, d.arrows(6).table(6))}
	var answers []answer
	for i := range 160 {
		hold(s, i)
		p, b := known[d.next(len(known))], relations[d.next(len(relations))]
		c := ofPair(s, uint8(d.next(8)), uint8(d.next(8)))
		if i%4 < 3 {
			c = steps()[i%4](s, p, b)
		}
		h, n, err := c.do()
		switch {
		case h > 1 && i%4 < 3:
			known = append(known, h)
		case h > 1:
			relations = append(relations, h)
		}
		answers = append(answers, answer{h, n, err})
	}
	return answers, held(s)
}

// DOC.md's rule 6: the same calls, the same handles, with the cache, without it, and switched in between.
func TestCached(t *testing.T) {
	first, all := row(t, func(*nodes.Store, int) {})
	refused, inner := 0, 0
	for _, a := range first {
		switch {
		case a.err == api.ErrFull:
			refused++
		case a.h > 1:
			inner++
		}
	}
	if refused < 10 || inner < 10 {
		t.Fatalf("%d calls refused, %d inner nodes told", refused, inner)
	}
	for way, hold := range []func(s *nodes.Store, i int){
		func(*nodes.Store, int) {},
		func(s *nodes.Store, i int) { s.Cached(false) },
		func(s *nodes.Store, i int) { s.Cached(i%2 == 0) },
		func(s *nodes.Store, i int) { s.Cached(i/7%2 == 1) },
	} {
		if got, nodes := row(t, hold); !slices.Equal(got, first) || !maps.Equal(nodes, all) {
			t.Errorf("way %d: other answers", way)
		}
	}
}

// DOC.md's rule 6: stores don't know of one another: of the same numbers each tells its own nodes, and makes them in itself.
func TestTwoStores(t *testing.T) {
	d := draw(5)
	s, o, third := store(t, 4, api.MaxSlots), store(t, 8, api.MaxSlots), store(t, 3, 200)
	for _, one := range []*nodes.Store{s, o} {
		for range 3 {
			laid(t, one, d.set(one.Vars()).table(one.Vars()))
		}
		laid(t, one, d.arrows(one.Vars()).table(one.Vars()))
	}
	laid(t, third, d.function(3, 0xff))
	all := slices.Concat([]api.Handle{0, 1}, s.All())
	for i := range 60 {
		one, other := s, o
		if i%2 == 1 {
			one, other = o, s
		}
		p, b, from, to := all[d.next(len(all))], all[d.next(len(all))], uint8(d.next(4)), uint8(d.next(4))
		was, wasThird := held(other), held(third)
		for _, of := range steps() {
			if rel.Fits(one, p) {
				told(t, of(one, p, b))
			} else {
				refuses(t, of(one, p, b), api.ErrRel)
			}
		}
		told(t, ofPair(one, from, to))
		refuses(t, ofPair(third, from, to), api.ErrRel)
		if !maps.Equal(held(other), was) || !maps.Equal(held(third), wasThird) {
			t.Fatalf("a call of a store of %d variables changed another one", one.Vars())
		}
	}
	// A handle, or a state, of the one is none of the other, if that one has no such.
	n := alone(t, o, 15)
	for s.Is(n) {
		n = laid(t, o, d.set(8).table(8))
	}
	for _, of := range steps() {
		refuses(t, of(s, n, 1), api.ErrNode)
		refuses(t, of(s, 1, n), api.ErrNode)
		told(t, of(o, n, 1))
		told(t, of(o, 1, n))
	}
	refuses(t, ofPair(s, 4, 0), api.ErrVar)
	told(t, ofPair(o, 4, 0))
}

// P16.1, P16.2, P16.3: a store of room for the most, with as many nodes as drawn functions need, and answers among them.
func TestGreatestStore(t *testing.T) {
	d := draw(3)
	s := store(t, api.MaxVars, api.MaxSlots)
	for i := range 60 {
		h := told(t, d.call(t, s, i))
		if rel.Fits(s, h) {
			told(t, ofReach(s, h, laid(t, s, d.arrows(8).table(8))))
		}
	}
}
