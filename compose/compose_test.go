package compose_test

import (
	"fmt"
	"maps"
	"math"
	"slices"
	"testing"

	"spinney/api"
	"spinney/compose"
	"spinney/logic"
	"spinney/nodes"
	"spinney/quant"
	"spinney/truth"
)

// great are handles that no store gives out: from 2^28 on, those among them of which the lowest 28 bits are a constant's or a node's.
var great = []api.Handle{1 << 28, 1<<28 + 1, 1<<28 + 2, 1<<28 + 3, 1 << 29, 1<<31 - 1, 1 << 31, 1<<31 + 2, math.MaxUint32 - 1, math.MaxUint32}

// noVariables are numbers that are no variables where there are so many, those among them of which the lowest bits are a variable's.
func noVariables(vars int) []int {
	return []int{-1, -2, -8, -256, -1 << 32, math.MinInt32, math.MinInt + 1, math.MinInt, vars, vars + 1, 2 * vars, api.MaxVars, 256, 257, 1 << 32, 1<<32 + 1, math.MaxInt32, math.MaxInt - 1, math.MaxInt}
}

// store makes a store.
func store(t *testing.T, vars, room int) *nodes.Store {
	t.Helper()
	s, err := nodes.New(vars, room)
	if err != api.OK {
		t.Fatalf("New(%d, %d): %v", vars, room, err)
	}
	return s
}

// triple is what an inner node is made of.
type triple struct {
	level     int
	low, high api.Handle
}

// held is all inner nodes of s.
func held(s *nodes.Store) map[api.Handle]triple {
	m := map[api.Handle]triple{}
	for _, h := range s.All() {
		m[h] = triple{s.Level(h), s.Low(h), s.High(h)}
	}
	return m
}

// function is the table of the node's function, by walks down to a constant at all assignments.
func function(s *nodes.Store, h api.Handle) api.Func {
	o := s.Order()
	var f api.Func
	for x := range 256 {
		at := h
		for at > 1 {
			if x>>o.Var(s.Level(at))&1 == 1 {
				at = s.High(at)
			} else {
				at = s.Low(at)
			}
		}
		f[x/64] |= uint64(at) << (x % 64)
	}
	return f
}

// functions are the tables of the nodes of l.
func functions(s *nodes.Store, l []api.Handle) []api.Func {
	var g []api.Func
	for _, h := range l {
		g = append(g, function(s, h))
	}
	return g
}

// within is, at x, what f is where each variable v is as g[v] is at x, by each assignment.
func within(f api.Func, g []api.Func) api.Func {
	var is api.Func
	for x := range 256 {
		y := uint8(x)
		for v := range g {
			y &^= 1 << v
			if truth.Eval(g[v], uint8(x)) {
				y |= 1 << v
			}
		}
		if truth.Eval(f, y) {
			is[x/64] |= 1 << (x % 64)
		}
	}
	return is
}

// variables are the functions that the variables of l are.
func variables(l []int) []api.Func {
	var g []api.Func
	for _, v := range l {
		g = append(g, truth.Var(v))
	}
	return g
}

// first are the first so many variables.
func first(vars int) []int { return []int{0, 1, 2, 3, 4, 5, 6, 7}[:vars] }

// lay makes the node of f by Mk alone, the nodes of f and no others; false, if there is no room.
func lay(s *nodes.Store, f api.Func) (api.Handle, bool) {
	var down func(f api.Func, level int) api.Handle
	ok := true
	down = func(f api.Func, level int) api.Handle {
		if level == s.Vars() {
			return api.Handle(f[0] & 1)
		}
		v := s.Order().Var(level)
		h, err := s.Mk(level, down(truth.Fix(f, v, false), level+1), down(truth.Fix(f, v, true), level+1))
		ok = ok && err == api.OK
		return h
	}
	h := down(f, 0)
	return h, ok
}

// laid is lay where there is room.
func laid(t *testing.T, s *nodes.Store, f api.Func) api.Handle {
	t.Helper()
	h, ok := lay(s, f)
	if !ok {
		t.Fatalf("no room for %x", f)
	}
	return h
}

// laidAll is laid of each of l.
func laidAll(t *testing.T, s *nodes.Store, l []api.Func) []api.Handle {
	t.Helper()
	var handles []api.Handle
	for _, f := range l {
		handles = append(handles, laid(t, s, f))
	}
	return handles
}

// call is one of the calls with its arguments, and what it means.
type call struct {
	name  string
	s     *nodes.Store
	do    func() (api.Handle, api.Errno)
	means func() api.Func
}

// ofCompose is a call of Compose.
func ofCompose(s *nodes.Store, f api.Handle, v int, g api.Handle) call {
	return call{
		fmt.Sprintf("Compose(%d, %d, %d)", f, v, g), s,
		func() (api.Handle, api.Errno) { return compose.Compose(s, f, v, g) },
		func() api.Func { return truth.Compose(function(s, f), v, function(s, g)) },
	}
}

// ofSubst is a call of Subst.
func ofSubst(t *testing.T, s *nodes.Store, f api.Handle, g []api.Handle) call {
	return call{
		fmt.Sprintf("Subst(%d, %d)", f, g), s,
		func() (h api.Handle, err api.Errno) {
			lent(t, g, 77, func(l []api.Handle) { h, err = compose.Subst(s, f, l) })
			return h, err
		},
		func() api.Func { return within(function(s, f), functions(s, g)) },
	}
}

// ofRename is a call of Rename.
func ofRename(t *testing.T, s *nodes.Store, f api.Handle, to []int) call {
	return call{
		fmt.Sprintf("Rename(%d, %d)", f, to), s,
		func() (h api.Handle, err api.Errno) {
			lent(t, to, 77, func(l []int) { h, err = compose.Rename(s, f, l) })
			return h, err
		},
		func() api.Func { return within(function(s, f), variables(to)) },
	}
}

// lent hands a list over with spare room behind it, and fails unless both are as they were then. A nil list is handed over as such.
func lent[T comparable](t *testing.T, l []T, spare T, do func([]T)) {
	t.Helper()
	if l == nil {
		do(nil)
		return
	}
	with := append(slices.Clone(l), spare, spare, spare)
	was := slices.Clone(with)
	do(with[:len(l)])
	if !slices.Equal(with, was) {
		t.Fatalf("the list %v is %v behind the call", was, with)
	}
}

// stays fails unless all nodes that were there are there, and the same.
func stays(t *testing.T, c call, was map[api.Handle]triple) {
	t.Helper()
	now := held(c.s)
	for h, k := range was {
		if now[h] != k {
			t.Fatalf("%s: node %d was %v, is %v", c.name, h, k, now[h])
		}
	}
	if c.s.Len() != len(now) || c.s.Len() > c.s.Room() {
		t.Fatalf("%s: Len %d of %d nodes in room for %d", c.name, c.s.Len(), len(now), c.s.Room())
	}
}

// answers makes a call and fails unless it answers the node of what it means, also when it is made again, or ErrFull with the store full then; what was there stays. It tells the answer, and whether there was one.
func answers(t *testing.T, c call) (api.Handle, bool) {
	t.Helper()
	was, want := held(c.s), c.means()
	h, err := c.do()
	stays(t, c, was)
	if err == api.ErrFull {
		if h != 0 || c.s.Len() != c.s.Room() {
			t.Fatalf("%s: %d beside ErrFull, %d nodes in room for %d", c.name, h, c.s.Len(), c.s.Room())
		}
		return 0, false
	}
	if err != api.OK || !c.s.Is(h) || function(c.s, h) != want {
		t.Fatalf("%s: %d, %v: %x, want %x", c.name, h, err, function(c.s, h), want)
	}
	if again, err := c.do(); again != h || err != api.OK {
		t.Fatalf("%s again: %d, %v, it was %d", c.name, again, err, h)
	}
	stays(t, c, was)
	return h, true
}

// told is answers where there is room for whatever is made.
func told(t *testing.T, c call) api.Handle {
	t.Helper()
	h, ok := answers(t, c)
	if !ok {
		t.Fatalf("%s: ErrFull, %d nodes", c.name, c.s.Len())
	}
	return h
}

// refuses fails unless the call answers that error, and leaves all as it was.
func refuses(t *testing.T, c call, want api.Errno) {
	t.Helper()
	was := held(c.s)
	if h, err := c.do(); h != 0 || err != want {
		t.Fatalf("%s: %d, %v, want %v", c.name, h, err, want)
	}
	if !maps.Equal(held(c.s), was) {
		t.Fatalf("%s: %v, it was %v", c.name, held(c.s), was)
	}
}

// draw is a row of numbers without a pattern.
type draw uint64

func (d *draw) next(below int) int {
	*d = *d*6364136223846793005 + 1442695040888963407
	return int(uint64(*d) >> 33 % uint64(below))
}

// function draws a function of so many variables: true often or seldom, hanging on all variables or on some.
func (d *draw) function(vars int) api.Func {
	var f api.Func
	often := 1 + d.next(15)
	for x := range 1 << vars {
		if d.next(16) < often {
			f[x/64] |= 1 << (x % 64)
		}
	}
	f = truth.Restrict(f, uint8(255<<vars), 0)
	if d.next(3) == 0 {
		f = truth.Restrict(f, uint8(d.next(256)), uint8(d.next(256)))
	}
	return f
}

// list draws a function for each variable, among them constants and variables.
func (d *draw) list(vars int) []api.Func {
	var l []api.Func
	for range vars {
		switch d.next(6) {
		case 0:
			l = append(l, truth.Const(d.next(2) == 0))
		case 1:
			l = append(l, truth.Var(d.next(vars)))
		default:
			l = append(l, d.function(vars))
		}
	}
	return l
}

// names draws a variable for each variable.
func (d *draw) names(vars int) []int {
	var l []int
	for range vars {
		l = append(l, d.next(vars))
	}
	return l
}

// turned draws a permutation.
func (d *draw) turned(vars int) []int {
	l := slices.Clone(first(vars))
	for i := range l {
		j := d.next(i + 1)
		l[i], l[j] = l[j], l[i]
	}
	return l
}

// call draws one of the calls, of functions that it lays.
func (d *draw) call(t *testing.T, s *nodes.Store, which int) call {
	t.Helper()
	vars := s.Vars()
	f := laid(t, s, d.function(vars))
	switch which % 3 {
	case 0:
		return ofCompose(s, f, d.next(vars), laid(t, s, d.function(vars)))
	case 1:
		return ofSubst(t, s, f, laidAll(t, s, d.list(vars)))
	}
	return ofRename(t, s, f, d.names(vars))
}

// P13.1: the chapter's example, of all functions of up to three variables: a constant within a function fixes the variable.
func TestExample(t *testing.T) {
	for vars := 1; vars <= 3; vars++ {
		s := store(t, vars, 1<<(1<<vars))
		for n := range 1 << (1 << vars) {
			a := laid(t, s, truth.Restrict(api.Func{uint64(n)}, uint8(255<<vars), 0))
			for v := range vars {
				for g := range api.Handle(2) {
					want, err := quant.Restrict(s, a, 1<<v, uint8(g)<<v)
					if h := told(t, ofCompose(s, a, v, g)); h != want || err != api.OK {
						t.Fatalf("Compose(%d, %d, %d): %d, Restrict %d, %v", a, v, g, h, want, err)
					}
				}
			}
		}
	}
}

// P13.1: what isn't a node is refused, as f, as g and as both, by ErrNode also where v is no variable, in a store that has room and in a full one.
func TestComposeNoNode(t *testing.T) {
	for _, vars := range []int{1, 3, api.MaxVars} {
		for _, room := range []int{1, 50} {
			s := store(t, vars, room)
			a := laid(t, s, truth.Var(0))
			for _, n := range append([]api.Handle{a + 1, a + 2, 1<<28 - 1}, great...) {
				for _, v := range append(noVariables(vars), first(vars)...) {
					for _, other := range []api.Handle{0, 1, a, n, n + 7} {
						refuses(t, ofCompose(s, n, v, other), api.ErrNode)
						refuses(t, ofCompose(s, other, v, n), api.ErrNode)
					}
				}
			}
		}
	}
}

// P13.2: what isn't a node is refused, as f and at every place of g, by ErrNode also where g isn't Vars long; as f of Rename also where to isn't Vars long or has no variables.
func TestListsNoNode(t *testing.T) {
	for _, vars := range []int{1, 3, api.MaxVars} {
		for _, room := range []int{1, 50} {
			s := store(t, vars, room)
			a := laid(t, s, truth.Var(0))
			for _, n := range append([]api.Handle{a + 1, a + 2, 1<<28 - 1}, great...) {
				for _, length := range []int{0, 1, vars - 1, vars, vars + 1, 2*vars + 3, 40} {
					g := slices.Repeat([]api.Handle{a}, length)
					refuses(t, ofSubst(t, s, n, g), api.ErrNode)
					for at := range g {
						g[at] = n
						for _, f := range []api.Handle{0, 1, a, n} {
							refuses(t, ofSubst(t, s, f, g), api.ErrNode)
						}
						g[at] = api.Handle(at % 2)
					}
					for _, to := range []int{0, vars - 1, -1, vars, math.MinInt} {
						refuses(t, ofRename(t, s, n, slices.Repeat([]int{to}, length)), api.ErrNode)
					}
				}
				refuses(t, ofSubst(t, s, n, nil), api.ErrNode)
				refuses(t, ofRename(t, s, n, nil), api.ErrNode)
			}
		}
	}
}

// P13.1, P13.2: of an empty store the constants alone are nodes.
func TestNoNodeOfEmpty(t *testing.T) {
	s := store(t, 2, 1)
	for _, n := range append([]api.Handle{2, 3}, great...) {
		refuses(t, ofCompose(s, n, 0, 1), api.ErrNode)
		refuses(t, ofCompose(s, 1, 0, n), api.ErrNode)
		refuses(t, ofSubst(t, s, n, []api.Handle{0, 1}), api.ErrNode)
		refuses(t, ofSubst(t, s, 0, []api.Handle{1, n}), api.ErrNode)
		refuses(t, ofRename(t, s, n, []int{0, 1}), api.ErrNode)
	}
	if h, err := s.Mk(1, 0, 1); err != api.OK || !s.Is(h) {
		t.Fatalf("Mk(1, 0, 1): %d, %v", h, err)
	}
}

// P13.1: a v that is no variable is refused, of constants and of nodes, in a store that has room and in a full one; all variables are taken.
func TestComposeNoVariable(t *testing.T) {
	for vars := 1; vars <= api.MaxVars; vars++ {
		for _, room := range []int{1, 50} {
			s := store(t, vars, room)
			known := []api.Handle{0, 1, laid(t, s, truth.Var(vars-1))}
			for _, f := range known {
				for _, g := range known {
					for _, v := range noVariables(vars) {
						refuses(t, ofCompose(s, f, v, g), api.ErrVar)
					}
					for v := range vars {
						told(t, ofCompose(s, f, v, g))
					}
				}
			}
		}
	}
}

// P13.2: lists that aren't Vars long are refused, of constants and of nodes: none, an empty one, one too short, one too long, far too long.
func TestLengths(t *testing.T) {
	for vars := 1; vars <= api.MaxVars; vars++ {
		for _, room := range []int{1, 50} {
			s := store(t, vars, room)
			known := []api.Handle{0, 1, laid(t, s, truth.Var(vars-1))}
			for _, f := range known {
				refuses(t, ofSubst(t, s, f, nil), api.ErrVar)
				refuses(t, ofRename(t, s, f, nil), api.ErrVar)
				for _, length := range []int{0, 1, vars - 1, vars, vars + 1, 2 * vars, api.MaxVars, api.MaxVars + 1, 256, 256 + vars, 5000} {
					for i, h := range known {
						subst := ofSubst(t, s, f, slices.Repeat([]api.Handle{h}, length))
						rename := ofRename(t, s, f, slices.Repeat([]int{vars - 1}, length))
						noName := ofRename(t, s, f, slices.Repeat([]int{-1 + i*(vars+1)}, length))
						if length != vars {
							refuses(t, subst, api.ErrVar)
							refuses(t, rename, api.ErrVar)
						} else {
							told(t, subst)
							told(t, rename)
						}
						refuses(t, noName, api.ErrVar)
					}
				}
			}
		}
	}
}

// P13.2: a list to that has something that is no variable is refused, at every place, of constants too, and of functions that don't hang on the variable of that place.
func TestNoVariableInList(t *testing.T) {
	for vars := 1; vars <= api.MaxVars; vars++ {
		for _, room := range []int{1, 50} {
			s := store(t, vars, room)
			for _, f := range []api.Handle{0, 1, laid(t, s, truth.Var(0))} {
				for at := range vars {
					for _, n := range noVariables(vars) {
						to := slices.Clone(first(vars))
						to[at] = n
						refuses(t, ofRename(t, s, f, to), api.ErrVar)
						for i := at + 1; i < vars; i++ {
							to[i] = n
						}
						refuses(t, ofRename(t, s, f, to), api.ErrVar)
					}
				}
				told(t, ofRename(t, s, f, first(vars)))
			}
		}
	}
}

// P13.1, P13.2: of a constant it is that constant, whatever is put into it, and nothing is made.
func TestConstantOutside(t *testing.T) {
	for vars := 1; vars <= api.MaxVars; vars++ {
		d := draw(vars)
		s := store(t, vars, 2000)
		l := append([]api.Handle{0, 1}, laidAll(t, s, d.list(vars))...)
		n := s.Len()
		for f := range api.Handle(2) {
			var got []api.Handle
			for _, g := range l {
				for v := range vars {
					got = append(got, told(t, ofCompose(s, f, v, g)))
				}
				got = append(got, told(t, ofSubst(t, s, f, slices.Repeat([]api.Handle{g}, vars))))
			}
			got = append(got, told(t, ofSubst(t, s, f, l[2:])), told(t, ofRename(t, s, f, d.names(vars))))
			if slices.ContainsFunc(got, func(h api.Handle) bool { return h != f }) || s.Len() != n {
				t.Fatalf("%d, with something put into it: %d; Len was %d, is %d", f, got, n, s.Len())
			}
		}
	}
}

// P13.1, P13.2: with constants alone put into it a function is its value there.
func TestConstantsInside(t *testing.T) {
	for vars := 1; vars <= api.MaxVars; vars++ {
		d := draw(vars + 30)
		s := store(t, vars, 200)
		f := d.function(vars)
		a := laid(t, s, f)
		n := s.Len()
		for x := range 1 << vars {
			var g []api.Handle
			for v := range vars {
				g = append(g, api.Handle(x>>v&1))
			}
			if h := told(t, ofSubst(t, s, a, g)); h > 1 || (h == 1) != truth.Eval(f, uint8(x)) || s.Len() != n {
				t.Fatalf("%x at %x: %d; Len was %d, is %d", f, x, h, n, s.Len())
			}
		}
	}
}

// P13.1, P13.2: with each variable put where it is a function is itself; a variable's node, with something put into it, is just that, if it is put there, else itself.
func TestVariables(t *testing.T) {
	for vars := 1; vars <= api.MaxVars; vars++ {
		d := draw(vars + 60)
		s := store(t, vars, 3000)
		own, others := laidAll(t, s, variables(first(vars))), laidAll(t, s, d.list(vars))
		f := laid(t, s, d.function(vars))
		if h := told(t, ofSubst(t, s, f, own)); h != f {
			t.Fatalf("Subst by the variables themselves: %d, it was %d", h, f)
		}
		to := d.names(vars)
		for v := range vars {
			if h := told(t, ofCompose(s, f, v, own[v])); h != f {
				t.Fatalf("Compose by variable %d itself: %d, it was %d", v, h, f)
			}
			if h := told(t, ofSubst(t, s, own[v], others)); h != others[v] {
				t.Fatalf("Subst of variable %d by %d: %d", v, others, h)
			}
			if h := told(t, ofRename(t, s, own[v], to)); h != own[to[v]] {
				t.Fatalf("Rename of variable %d to %d: %d", v, to, h)
			}
			for w := range vars {
				want := own[w]
				if w == v {
					want = others[v]
				}
				if h := told(t, ofCompose(s, own[w], v, others[v])); h != want {
					t.Fatalf("Compose of variable %d by %d at %d: %d", w, others[v], v, h)
				}
			}
		}
	}
}

// P13.1: a g that hangs on v itself, on variables above and below it, is looked at where it is, not where f is.
func TestHangsOnItself(t *testing.T) {
	s := store(t, 3, 50)
	a, b, c := truth.Var(0), truth.Var(1), truth.Var(2)
	for _, e := range []struct {
		f    api.Func
		v    int
		g    api.Func
		want api.Func
	}{
		{b, 1, truth.Not(b), truth.Not(b)},
		{truth.And(a, b), 1, truth.Xor(a, b), truth.And(a, truth.Not(b))},
		{truth.And(b, c), 1, truth.Or(truth.Not(c), a), truth.And(a, c)},
		{truth.Xor(b, c), 2, truth.Xor(a, c), truth.Xor(truth.Xor(a, b), c)},
		{truth.Ite(a, b, c), 0, truth.And(b, c), truth.Or(truth.And(b, c), truth.And(truth.Not(truth.And(b, c)), c))},
	} {
		h := told(t, ofCompose(s, laid(t, s, e.f), e.v, laid(t, s, e.g)))
		if h != laid(t, s, e.want) {
			t.Errorf("%x with %x at %d: %x, want %x", e.f[0], e.g[0], e.v, function(s, h)[0], e.want[0])
		}
	}
}

// P13.2: all variables are replaced at once: two that change places, which one behind the other would make one.
func TestAtOnce(t *testing.T) {
	s := store(t, 2, 20)
	a, b := laid(t, s, truth.Var(0)), laid(t, s, truth.Var(1))
	f := laid(t, s, truth.And(truth.Var(0), truth.Not(truth.Var(1))))
	other := laid(t, s, truth.And(truth.Var(1), truth.Not(truth.Var(0))))
	if h := told(t, ofSubst(t, s, f, []api.Handle{b, a})); h != other {
		t.Errorf("Subst: %d, want %d", h, other)
	}
	if h := told(t, ofRename(t, s, f, []int{1, 0})); h != other {
		t.Errorf("Rename: %d, want %d", h, other)
	}
	one := told(t, ofCompose(s, f, 0, b))
	if h := told(t, ofCompose(s, one, 1, a)); one != 0 || h != 0 {
		t.Errorf("one behind the other: %d, %d", one, h)
	}
}

// allOf lays all functions of so many variables into a store of room for just these.
func allOf(t *testing.T, vars int) (*nodes.Store, []api.Func, map[api.Func]api.Handle) {
	t.Helper()
	n := 1 << (1 << vars)
	s := store(t, vars, n-2)
	var l []api.Func
	handles := map[api.Func]api.Handle{}
	for i := range n {
		f := truth.Restrict(api.Func{uint64(i)}, uint8(255<<vars), 0)
		l = append(l, f)
		handles[f] = laid(t, s, f)
	}
	if s.Len() != n-2 {
		t.Fatalf("%d nodes of %d functions", s.Len(), n)
	}
	return s, l, handles
}

// P13.1: of up to three variables all functions within all functions, at all variables.
func TestComposeAllOfThree(t *testing.T) {
	for vars := 1; vars <= 3; vars++ {
		s, l, handles := allOf(t, vars)
		for _, f := range l {
			for _, g := range l {
				for v := range vars {
					want := handles[truth.Compose(f, v, g)]
					if h, err := compose.Compose(s, handles[f], v, handles[g]); h != want || err != api.OK {
						t.Fatalf("%x with %x at %d: %d, %v, want %d", f[0], g[0], v, h, err, want)
					}
				}
			}
		}
	}
}

// P13.2: of one and of two variables all lists within all functions.
func TestSubstAllOfTwo(t *testing.T) {
	for vars := 1; vars <= 2; vars++ {
		s, l, handles := allOf(t, vars)
		for _, f := range l {
			for i := range len(l) {
				for j := range len(l) {
					g := []api.Func{l[i], l[j]}[:vars]
					want := handles[within(f, g)]
					if h, err := compose.Subst(s, handles[f], []api.Handle{handles[l[i]], handles[l[j]]}[:vars]); h != want || err != api.OK {
						t.Fatalf("%x by %x: %d, %v, want %d", f[0], g, h, err, want)
					}
				}
			}
		}
	}
}

// lists are all lists of that length of the first so many variables.
func lists(length, vars int) [][]int {
	if length == 0 {
		return [][]int{nil}
	}
	var l [][]int
	for _, some := range lists(length-1, vars) {
		for v := range vars {
			l = append(l, append(slices.Clone(some), v))
		}
	}
	return l
}

// P13.2: of up to three variables all functions by all lists of variables, those that name one several times among them.
func TestRenameAllOfThree(t *testing.T) {
	for vars := 1; vars <= 3; vars++ {
		s, l, handles := allOf(t, vars)
		for _, to := range lists(vars, vars) {
			for _, f := range l {
				want := handles[within(f, variables(to))]
				if h, err := compose.Rename(s, handles[f], to); h != want || err != api.OK {
					t.Fatalf("%x to %d: %d, %v, want %d", f[0], to, h, err, want)
				}
			}
		}
	}
}

// P13.2: a list of one variable alone, and one function at all places.
func TestOneForAll(t *testing.T) {
	for vars := 1; vars <= api.MaxVars; vars++ {
		d := draw(vars + 90)
		s := store(t, vars, 1000)
		f := d.function(vars)
		a, g := laid(t, s, f), laid(t, s, d.function(vars))
		none, every := truth.Eval(f, 0), truth.Eval(f, 255)
		for v := range vars {
			want := truth.Ite(truth.Var(v), truth.Const(every), truth.Const(none))
			if h := told(t, ofRename(t, s, a, slices.Repeat([]int{v}, vars))); function(s, h) != want {
				t.Fatalf("Rename of %d to %d alone: %x, want %x", a, v, function(s, h), want)
			}
		}
		want := truth.Ite(function(s, g), truth.Const(every), truth.Const(none))
		if h := told(t, ofSubst(t, s, a, slices.Repeat([]api.Handle{g}, vars))); function(s, h) != want {
			t.Fatalf("Subst of %d by %d alone: %x, want %x", a, g, function(s, h), want)
		}
	}
}

// P13.1, P13.2: drawn functions of one to eight variables, with the cache and without, each call in a store of its own, so that no answer is there by another one.
func TestDrawn(t *testing.T) {
	for vars := 1; vars <= api.MaxVars; vars++ {
		d := draw(vars + 100)
		for round := range 90 {
			s := store(t, vars, 2000)
			s.Cached(round%2 == 0)
			told(t, d.call(t, s, round))
		}
	}
}

// P13.1, P13.2: many calls in one store, and what was answered is f and g too.
func TestInOneStore(t *testing.T) {
	for _, cached := range []bool{true, false} {
		d := draw(8)
		s := store(t, 6, api.MaxSlots)
		s.Cached(cached)
		known := append([]api.Handle{0, 1}, laidAll(t, s, d.list(6))...)
		some := func() api.Handle { return known[d.next(len(known))] }
		for range 70 {
			var g []api.Handle
			for range 6 {
				g = append(g, some())
			}
			known = append(known, told(t, ofCompose(s, some(), d.next(6), some())), told(t, ofSubst(t, s, some(), g)), told(t, ofRename(t, s, some(), d.names(6))))
		}
	}
}

// P13.1, P13.2: Compose is Ite of the two halves; Subst with one other function among the variables is Compose; Rename is Subst by the variables' nodes: one handle.
func TestBySeveralWays(t *testing.T) {
	for vars := 1; vars <= api.MaxVars; vars++ {
		d := draw(vars + 150)
		for range 12 {
			s := store(t, vars, api.MaxSlots)
			f, g, v, to := laid(t, s, d.function(vars)), laid(t, s, d.function(vars)), d.next(vars), d.names(vars)
			composed := told(t, ofCompose(s, f, v, g))
			low, _ := quant.Restrict(s, f, 1<<v, 0)
			high, _ := quant.Restrict(s, f, 1<<v, 1<<v)
			if h, err := logic.Ite(s, g, high, low); h != composed || err != api.OK {
				t.Fatalf("Compose(%d, %d, %d): %d, Ite of the halves %d, %v", f, v, g, composed, h, err)
			}
			var own, named []api.Handle
			for w := range vars {
				is, first := logic.Var(s, w)
				other, second := logic.Var(s, to[w])
				if first != api.OK || second != api.OK {
					t.Fatalf("Var: %v, %v", first, second)
				}
				own, named = append(own, is), append(named, other)
			}
			own[v] = g
			if h := told(t, ofSubst(t, s, f, own)); h != composed {
				t.Fatalf("Compose(%d, %d, %d): %d, Subst %d", f, v, g, composed, h)
			}
			if renamed, h := told(t, ofRename(t, s, f, to)), told(t, ofSubst(t, s, f, named)); h != renamed {
				t.Fatalf("Rename(%d, %d): %d, Subst %d", f, to, renamed, h)
			}
		}
	}
}

// back is a permutation's way back.
func back(to []int) []int {
	fro := make([]int, len(to))
	for v, w := range to {
		fro[w] = v
	}
	return fro
}

// toAndFro fails unless f, renamed to and fro, and fro and to, is itself.
func toAndFro(t *testing.T, s *nodes.Store, f api.Handle, to []int) {
	t.Helper()
	for _, way := range [][]int{to, back(to)} {
		there := told(t, ofRename(t, s, f, way))
		if again := told(t, ofRename(t, s, there, back(way))); again != f {
			t.Fatalf("%d renamed to %d is %d, and back %d", f, way, there, again)
		}
	}
}

// permutations are all permutations of so many variables.
func permutations(vars int) [][]int {
	var l [][]int
	for _, to := range lists(vars, vars) {
		if slices.Equal(slices.Sorted(slices.Values(to)), first(vars)) {
			l = append(l, to)
		}
	}
	return l
}

// P13.3: what is renamed to and fro is itself: all functions of up to three variables, all permutations of up to five, drawn ones of up to eight, with the cache and without.
func TestToAndFro(t *testing.T) {
	for vars := 1; vars <= 3; vars++ {
		s, l, handles := allOf(t, vars)
		for _, to := range permutations(vars) {
			for _, f := range l {
				there, first := compose.Rename(s, handles[f], to)
				again, second := compose.Rename(s, there, back(to))
				if again != handles[f] || first != api.OK || second != api.OK {
					t.Fatalf("%x renamed to %d and back: %d, %v, %v", f[0], to, again, first, second)
				}
			}
		}
	}
	for vars := 4; vars <= 5; vars++ {
		d := draw(vars + 200)
		s := store(t, vars, api.MaxSlots)
		f := laid(t, s, d.function(vars))
		for _, to := range permutations(vars) {
			toAndFro(t, s, f, to)
		}
	}
	for vars := 1; vars <= api.MaxVars; vars++ {
		d := draw(vars + 230)
		for round := range 25 {
			s := store(t, vars, 1000)
			s.Cached(round%2 == 0)
			toAndFro(t, s, laid(t, s, d.function(vars)), d.turned(vars))
		}
	}
}

// P13.3: what is renamed to nothing else is itself, in a store without room for anything more too.
func TestRenamedToItself(t *testing.T) {
	for vars := 1; vars <= api.MaxVars; vars++ {
		d := draw(vars + 260)
		for range 20 {
			f := d.function(vars)
			s := store(t, vars, max(truth.Size([]api.Func{f}, first(vars)), 1))
			a := laid(t, s, f)
			if h := told(t, ofRename(t, s, a, first(vars))); h != a {
				t.Fatalf("%d renamed to nothing else: %d", a, h)
			}
		}
	}
}

// P13.3: a round of all variables, gone as often as there are variables, ends at the function itself.
func TestRound(t *testing.T) {
	for vars := 1; vars <= api.MaxVars; vars++ {
		d := draw(vars + 290)
		s := store(t, vars, 3000)
		f := laid(t, s, d.function(vars))
		to := append(slices.Clone(first(vars)[1:]), 0)
		h := f
		for range vars {
			h = told(t, ofRename(t, s, h, to))
		}
		if h != f {
			t.Errorf("%d variables: a whole round of %d ends at %d", vars, f, h)
		}
	}
}

// P13.1, P13.2: in every room from the arguments' own on: the right answer, or ErrFull with the store full then, and what was there stays; where there is room for more than is ever made, the answer.
func TestRoom(t *testing.T) {
	refused, answered := 0, 0
	for round := range 48 {
		vars := 1 + round%8
		d := draw(round + 500)
		big := store(t, vars, api.MaxSlots)
		told(t, d.call(t, big, round/8))
		d = draw(round + 500)
		some := store(t, vars, api.MaxSlots)
		d.call(t, some, round/8)
		have := max(some.Len(), 1)
		for room := have; room <= have+40; room++ {
			d = draw(round + 500)
			s := store(t, vars, room)
			s.Cached(round/24 == 0)
			c := d.call(t, s, round/8)
			was := functions(s, s.All())
			if _, ok := answers(t, c); ok {
				answered++
			} else {
				refused++
			}
			if !slices.Equal(functions(s, s.All()[:len(was)]), was) {
				t.Fatalf("%s: the nodes that were there are others", c.name)
			}
		}
	}
	if refused < 100 || answered < 100 {
		t.Errorf("%d calls refused, %d answered", refused, answered)
	}
}

// P13.1, P13.2: a store without any room left refuses what would be new, answers what needs nothing new, and refuses what isn't a node or a variable as ever.
func TestFull(t *testing.T) {
	s := store(t, 3, 3)
	a := laid(t, s, truth.Ite(truth.Var(0), truth.Var(1), truth.Var(2)))
	b, c := s.High(a), s.Low(a)
	if s.Len() != s.Room() || function(s, b) != truth.Var(1) || function(s, c) != truth.Var(2) {
		t.Fatalf("%d nodes in room for %d", s.Len(), s.Room())
	}
	for range 2 {
		if h := told(t, ofCompose(s, a, 0, 1)); h != b {
			t.Errorf("Compose(a, 0, 1): %d, want %d", h, b)
		}
		if h := told(t, ofCompose(s, a, 1, c)); h != c {
			t.Errorf("Compose(a, 1, c): %d, want %d", h, c)
		}
		if h := told(t, ofSubst(t, s, a, []api.Handle{0, 1, b})); h != b {
			t.Errorf("Subst(a, 0 1 b): %d, want %d", h, b)
		}
		if h := told(t, ofRename(t, s, b, []int{1, 2, 0})); h != c {
			t.Errorf("Rename(b, 1 2 0): %d, want %d", h, c)
		}
		refuses(t, ofCompose(s, a, 0, b), api.ErrFull)
		refuses(t, ofSubst(t, s, a, []api.Handle{b, c, 1}), api.ErrFull)
		refuses(t, ofRename(t, s, a, []int{0, 2, 1}), api.ErrFull)
		refuses(t, ofCompose(s, a, 3, b), api.ErrVar)
		refuses(t, ofSubst(t, s, a, []api.Handle{b, c}), api.ErrVar)
		refuses(t, ofRename(t, s, a, []int{0, 3, 1}), api.ErrVar)
		refuses(t, ofCompose(s, 5, 3, b), api.ErrNode)
		refuses(t, ofSubst(t, s, a, []api.Handle{b, 5}), api.ErrNode)
		refuses(t, ofRename(t, s, 5, []int{0, 3, 1}), api.ErrNode)
	}
}

// More than P13.1 and P13.2 ask for, and told in the README: nodes that are made are those of the answer that weren't there, and no others.
func TestNothingBesides(t *testing.T) {
	for vars := 1; vars <= api.MaxVars; vars++ {
		d := draw(vars + 320)
		for round := range 30 {
			s := store(t, vars, 2000)
			c := d.call(t, s, round)
			was := functions(s, s.All())
			h := told(t, c)
			if need := truth.Size(append(was, function(s, h)), first(vars)); s.Len() != need {
				t.Fatalf("%s: %d nodes, %d of them the answer's or there already", c.name, s.Len(), need)
			}
		}
	}
}

// answer is what a call told.
type answer struct {
	h   api.Handle
	err api.Errno
}

// row makes drawn calls, some of which there is no room for; ahead of each the cache is switched as hold tells. What was answered, in order, and all nodes behind it.
func row(t *testing.T, hold func(s *nodes.Store, i int)) ([]answer, map[api.Handle]triple) {
	t.Helper()
	d := draw(17)
	s := store(t, 6, 200)
	known := append([]api.Handle{0, 1}, laidAll(t, s, []api.Func{d.function(6), d.function(6), d.function(6)})...)
	some := func() api.Handle { return known[d.next(len(known))] }
	var answers []answer
	for i := range 120 {
		hold(s, i)
		var c call
		switch i % 3 {
		case 0:
			c = ofCompose(s, some(), d.next(6), some())
		case 1:
			c = ofSubst(t, s, some(), []api.Handle{some(), some(), some(), some(), some(), some()})
		case 2:
			c = ofRename(t, s, some(), d.names(6))
		}
		h, err := c.do()
		if h > 1 {
			known = append(known, h)
		}
		answers = append(answers, answer{h, err})
	}
	return answers, held(s)
}

// P13.1, P13.2, and DOC.md's rule 6: the same calls, the same handles, with the cache, without it, and switched in between.
func TestCached(t *testing.T) {
	first, all := row(t, func(*nodes.Store, int) {})
	refused, inner := 0, 0
	for _, a := range first {
		switch {
		case a.err == api.ErrFull:
			refused++
		case a.h > 1:
			inner++
		}
	}
	if refused < 10 || inner < 10 {
		t.Fatalf("%d calls refused, %d inner nodes told", refused, inner)
	}
	for way, hold := range []func(s *nodes.Store, i int){
		func(*nodes.Store, int) {},
		func(s *nodes.Store, i int) { s.Cached(false) },
		func(s *nodes.Store, i int) { s.Cached(i%2 == 0) },
		func(s *nodes.Store, i int) { s.Cached(i/7%2 == 1) },
	} {
		if got, nodes := row(t, hold); !slices.Equal(got, first) || !maps.Equal(nodes, all) {
			t.Errorf("way %d: other answers", way)
		}
	}
}

// DOC.md's rule 6: stores don't know of one another: of the same numbers each tells its own nodes, and makes them in itself.
func TestTwoStores(t *testing.T) {
	d := draw(5)
	s, o := store(t, 3, 300), store(t, 8, api.MaxSlots)
	laidAll(t, s, []api.Func{d.function(3), d.function(3), d.function(3)})
	laidAll(t, o, []api.Func{d.function(8), d.function(8)})
	for i := range 60 {
		one, other := s, o
		if i%2 == 1 {
			one, other = o, s
		}
		all := append([]api.Handle{0, 1}, s.All()...)
		f, g, v := all[d.next(len(all))], all[d.next(len(all))], d.next(3)
		for _, c := range []call{
			ofCompose(one, f, v, g),
			ofSubst(t, one, f, slices.Repeat([]api.Handle{g, f, 1, g}, 2)[:one.Vars()]),
			ofRename(t, one, f, d.names(one.Vars())),
		} {
			was := held(other)
			told(t, c)
			if !maps.Equal(held(other), was) {
				t.Fatalf("%s changed another store", c.name)
			}
		}
	}
	// A handle, a variable or a length of the one is none of the other, if that one has no such.
	n := slices.Max(o.All())
	if s.Is(n) {
		t.Fatalf("%d is a node of both", n)
	}
	refuses(t, ofCompose(s, n, 1, 1), api.ErrNode)
	refuses(t, ofCompose(s, 1, 3, 1), api.ErrVar)
	refuses(t, ofRename(t, s, 1, first(8)), api.ErrVar)
	told(t, ofCompose(o, n, 3, n))
	told(t, ofRename(t, o, n, d.turned(8)))
}

// P13.1, P13.2: a store of room for the most, with as many nodes as drawn functions need, and answers among them.
func TestGreatestStore(t *testing.T) {
	d := draw(3)
	s := store(t, api.MaxVars, api.MaxSlots)
	for i := range 45 {
		h := told(t, d.call(t, s, i))
		told(t, ofCompose(s, h, d.next(8), laid(t, s, d.function(8))))
	}
}
