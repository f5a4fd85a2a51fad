package logic_test

import (
	"maps"
	"math"
	"slices"
	"testing"

	"spinney/api"
	"spinney/logic"
	"spinney/nodes"
	"spinney/truth"
)

// op is one of the calls that take nodes, and what it means.
type op struct {
	name  string
	takes int
	do    func(s *nodes.Store, a []api.Handle) (api.Handle, api.Errno)
	means func(f []api.Func) api.Func
}

func ops() []op {
	return []op{
		{"Not", 1, func(s *nodes.Store, a []api.Handle) (api.Handle, api.Errno) { return logic.Not(s, a[0]) }, func(f []api.Func) api.Func { return truth.Not(f[0]) }},
		{"And", 2, func(s *nodes.Store, a []api.Handle) (api.Handle, api.Errno) { return logic.And(s, a[0], a[1]) }, func(f []api.Func) api.Func { return truth.And(f[0], f[1]) }},
		{"Or", 2, func(s *nodes.Store, a []api.Handle) (api.Handle, api.Errno) { return logic.Or(s, a[0], a[1]) }, func(f []api.Func) api.Func { return truth.Or(f[0], f[1]) }},
		{"Xor", 2, func(s *nodes.Store, a []api.Handle) (api.Handle, api.Errno) { return logic.Xor(s, a[0], a[1]) }, func(f []api.Func) api.Func { return truth.Xor(f[0], f[1]) }},
		{"Ite", 3, func(s *nodes.Store, a []api.Handle) (api.Handle, api.Errno) { return logic.Ite(s, a[0], a[1], a[2]) }, func(f []api.Func) api.Func { return truth.Ite(f[0], f[1], f[2]) }},
	}
}

// great are handles that no store gives out: from 2^28 on, those among them of which the lowest 28 bits are a constant's or a node's.
var great = []api.Handle{1 << 28, 1<<28 + 1, 1<<28 + 2, 1<<28 + 3, 1 << 29, 1<<31 - 1, 1 << 31, 1<<31 + 2, math.MaxUint32 - 1, math.MaxUint32}

// store makes a store.
func store(t *testing.T, vars, room int) *nodes.Store {
	t.Helper()
	s, err := nodes.New(vars, room)
	if err != api.OK {
		t.Fatalf("New(%d, %d): %v", vars, room, err)
	}
	return s
}

// triple is what an inner node is made of.
type triple struct {
	level     int
	low, high api.Handle
}

// held is all inner nodes of s.
func held(s *nodes.Store) map[api.Handle]triple {
	m := map[api.Handle]triple{}
	for _, h := range s.All() {
		m[h] = triple{s.Level(h), s.Low(h), s.High(h)}
	}
	return m
}

// value is what the node is at assignment x, by a walk down to a constant.
func value(s *nodes.Store, h api.Handle, x int) bool {
	o := s.Order()
	for h > 1 {
		if x>>o.Var(s.Level(h))&1 == 1 {
			h = s.High(h)
		} else {
			h = s.Low(h)
		}
	}
	return h == 1
}

// function is the table of the node's function, by walks at all assignments.
func function(s *nodes.Store, h api.Handle) api.Func {
	var f api.Func
	for x := range 256 {
		if value(s, h, x) {
			f[x/64] |= 1 << (x % 64)
		}
	}
	return f
}

// parts are the functions of a function's inner nodes, f's own among them, in that order.
func parts(f api.Func, order []int) map[api.Func]bool {
	found := map[api.Func]bool{}
	above := map[api.Func]bool{f: true}
	for _, v := range order {
		below := map[api.Func]bool{}
		for g := range above {
			low, high := truth.Fix(g, v, false), truth.Fix(g, v, true)
			if low != high {
				found[g] = true
			}
			below[low], below[high] = true, true
		}
		above = below
	}
	return found
}

// lacking are the functions of the nodes of f that s doesn't hold.
func lacking(s *nodes.Store, f api.Func) map[api.Func]bool {
	l := parts(f, s.Order().All())
	for _, h := range s.All() {
		delete(l, function(s, h))
	}
	return l
}

// lay makes the node of f by Mk alone, the nodes of f and no others; false, if there is no room.
func lay(s *nodes.Store, f api.Func) (api.Handle, bool) {
	var down func(f api.Func, level int) api.Handle
	ok := true
	down = func(f api.Func, level int) api.Handle {
		if level == s.Vars() {
			return api.Handle(f[0] & 1)
		}
		v := s.Order().Var(level)
		h, err := s.Mk(level, down(truth.Fix(f, v, false), level+1), down(truth.Fix(f, v, true), level+1))
		ok = ok && err == api.OK
		return h
	}
	h := down(f, 0)
	return h, ok
}

// laid is lay where there is room.
func laid(t *testing.T, s *nodes.Store, f api.Func) api.Handle {
	t.Helper()
	h, ok := lay(s, f)
	if !ok {
		t.Fatalf("no room for %x", f)
	}
	return h
}

// reached are the inner nodes that h reaches, h itself among them.
func reached(s *nodes.Store, h api.Handle) map[api.Handle]bool {
	m := map[api.Handle]bool{}
	var down func(h api.Handle)
	down = func(h api.Handle) {
		if h > 1 && !m[h] {
			m[h] = true
			down(s.Low(h))
			down(s.High(h))
		}
	}
	down(h)
	return m
}

// expect makes a call and fails unless it answers the node of want, has made the nodes of it that weren't there and no others, and makes none when it is made again; or, where there isn't room for all of them, ErrFull, with none made but such nodes. It tells the answer, 0 beside ErrFull.
func expect(t *testing.T, s *nodes.Store, name string, do func() (api.Handle, api.Errno), want api.Func) api.Handle {
	t.Helper()
	was, lack := held(s), lacking(s, want)
	h, err := do()
	now := held(s)
	for old, k := range was {
		if now[old] != k {
			t.Fatalf("%s: node %d was %v, is %v", name, old, k, now[old])
		}
	}
	if s.Room()-len(was) < len(lack) {
		refused(t, s, name, h, err, was, lack)
		return 0
	}
	if err != api.OK || !s.Is(h) || function(s, h) != want {
		t.Fatalf("%s: %d, %v: %x, want %x", name, h, err, function(s, h), want)
	}
	if len(now) != len(was)+len(lack) || s.Len() != len(now) {
		t.Fatalf("%s: %d nodes made, want %d", name, len(now)-len(was), len(lack))
	}
	mine := reached(s, h)
	for n := range now {
		if _, there := was[n]; !there && !mine[n] {
			t.Fatalf("%s: node %d isn't the answer's", name, n)
		}
	}
	if again, err := do(); again != h || err != api.OK || !maps.Equal(held(s), now) {
		t.Fatalf("%s again: %d, %v, it was %d", name, again, err, h)
	}
	return h
}

// refused fails unless a call was refused for room, and has made nothing but nodes that it lacked.
func refused(t *testing.T, s *nodes.Store, name string, h api.Handle, err api.Errno, was map[api.Handle]triple, lack map[api.Func]bool) {
	t.Helper()
	if h != 0 || err != api.ErrFull {
		t.Fatalf("%s: %d, %v without room", name, h, err)
	}
	for n := range held(s) {
		if _, there := was[n]; !there && !lack[function(s, n)] {
			t.Fatalf("%s: node %d isn't the answer's", name, n)
		}
	}
}

// call has the operation expected of those arguments.
func call(t *testing.T, s *nodes.Store, o op, a ...api.Handle) api.Handle {
	t.Helper()
	f := make([]api.Func, len(a))
	for i, h := range a {
		f[i] = function(s, h)
	}
	return expect(t, s, o.name, func() (api.Handle, api.Errno) { return o.do(s, a) }, o.means(f[:o.takes]))
}

// each goes through all rows of so many of l.
func each(l []api.Handle, many int, do func(row []api.Handle)) {
	if many == 0 {
		do(nil)
		return
	}
	for _, h := range l {
		each(l, many-1, func(row []api.Handle) { do(append(row, h)) })
	}
}

// spread is f's values at the assignments of the first so many variables, whatever the others are.
func spread(f api.Func, vars int) api.Func {
	return truth.Restrict(f, uint8(255<<vars), 0)
}

// draw is a row of numbers without a pattern.
type draw uint64

func (d *draw) next(below int) int {
	*d = *d*6364136223846793005 + 1442695040888963407
	return int(uint64(*d) >> 33 % uint64(below))
}

// function draws a function of so many variables: true often or seldom, hanging on all variables or on some.
func (d *draw) function(vars int) api.Func {
	var f api.Func
	often := 1 + d.next(15)
	for x := range 1 << vars {
		if d.next(16) < often {
			f[x/64] |= 1 << (x % 64)
		}
	}
	f = spread(f, vars)
	if d.next(3) == 0 {
		f = truth.Restrict(f, uint8(d.next(256)), uint8(d.next(256)))
	}
	return f
}

// P11.1: the chapter's example.
func TestExample(t *testing.T) {
	s := store(t, 1, 2)
	a, first := logic.Var(s, 0)
	b, second := logic.Not(s, a)
	h, err := logic.And(s, a, b)
	if h != 0 || first != api.OK || second != api.OK || err != api.OK || s.Len() != 2 {
		t.Errorf("And(a, Not(a)): %d (%v, %v, %v), Len %d", h, first, second, err, s.Len())
	}
}

// refuses fails unless the operation answers ErrNode, and leaves all as it was.
func refuses(t *testing.T, s *nodes.Store, o op, a []api.Handle) {
	t.Helper()
	was := held(s)
	if h, err := o.do(s, a); h != 0 || err != api.ErrNode {
		t.Fatalf("%s%v: %d, %v", o.name, a, h, err)
	}
	if !maps.Equal(held(s), was) {
		t.Fatalf("%s%v: %v, it was %v", o.name, a, held(s), was)
	}
}

// P11.1: an argument that isn't a node is refused, whichever it is and whatever the others are: also where these alone would tell the answer, and where there is no room.
func TestNoNode(t *testing.T) {
	for _, full := range []bool{false, true} {
		s := store(t, 3, 4)
		a, b := laid(t, s, truth.Var(0)), laid(t, s, truth.Var(2))
		if full {
			laid(t, s, truth.And(truth.Var(1), truth.Not(truth.Var(2))))
		}
		if full != (s.Len() == s.Room()) {
			t.Fatalf("%d nodes in room for %d", s.Len(), s.Room())
		}
		next := slices.Max(s.All()) + 1
		none := append([]api.Handle{next, next + 1, 1<<28 - 1}, great...)
		for _, o := range ops() {
			for _, n := range none {
				for at := range o.takes {
					each([]api.Handle{0, 1, a, b, n, none[0], math.MaxUint32}, o.takes-1, func(row []api.Handle) {
						refuses(t, s, o, slices.Insert(slices.Clone(row), at, n))
					})
				}
			}
		}
	}
}

// P11.1: of an empty store the constants alone are nodes.
func TestNoNodeOfEmpty(t *testing.T) {
	s := store(t, 8, 1)
	for _, o := range ops() {
		for _, n := range append([]api.Handle{2, 3}, great...) {
			each([]api.Handle{0, 1, n}, o.takes, func(row []api.Handle) {
				if slices.Contains(row, n) {
					refuses(t, s, o, slices.Clone(row))
				}
			})
		}
	}
	if h, err := s.Mk(7, 0, 1); err != api.OK || !s.Is(h) {
		t.Fatalf("Mk(7, 0, 1): %d, %v", h, err)
	}
}

// noVars are numbers of no variable in a store of so many.
func noVars(vars int) []int {
	l := []int{-1, -2, -8, -256, -1 << 32, math.MinInt32, math.MinInt, vars, vars + 1, vars + 8, vars + 256, 1<<32 + 1, math.MaxInt32, math.MaxInt}
	if vars < api.MaxVars {
		l = append(l, api.MaxVars-1)
	}
	return append(l, api.MaxVars)
}

// P11.1, P11.2: Var is the variable's node, one and no more, of all numbers of variables; of others ErrVar, and nothing is made.
func TestVar(t *testing.T) {
	for vars := 1; vars <= api.MaxVars; vars++ {
		for _, cached := range []bool{true, false} {
			s := store(t, vars, vars)
			s.Cached(cached)
			for v := vars - 1; v >= 0; v-- {
				h := expect(t, s, "Var", func() (api.Handle, api.Errno) { return logic.Var(s, v) }, truth.Var(v))
				if s.Level(h) != v || s.Low(h) != 0 || s.High(h) != 1 || s.Len() != vars-v {
					t.Fatalf("Var(%d): level %d, %d, %d, Len %d", v, s.Level(h), s.Low(h), s.High(h), s.Len())
				}
			}
			was := held(s)
			for _, v := range noVars(vars) {
				if h, err := logic.Var(s, v); h != 0 || err != api.ErrVar {
					t.Errorf("%d variables: Var(%d): %d, %v", vars, v, h, err)
				}
			}
			if !maps.Equal(held(s), was) {
				t.Errorf("%d variables: %v, it was %v", vars, held(s), was)
			}
		}
	}
}

// P11.1, P11.2: in a full store Var is refused where it would be new, told where it is there, and of no variable refused by ErrVar still.
func TestVarFull(t *testing.T) {
	s := store(t, 3, 2)
	for _, c := range []struct {
		v    int
		want api.Errno
	}{{1, api.OK}, {3, api.ErrVar}, {2, api.OK}, {0, api.ErrFull}, {1, api.OK}, {2, api.OK}, {3, api.ErrVar}, {-1, api.ErrVar}, {0, api.ErrFull}} {
		h, err := logic.Var(s, c.v)
		if err != c.want || (err == api.OK) != (h != 0) {
			t.Fatalf("Var(%d): %d, %v, want %v", c.v, h, err, c.want)
		}
		if err == api.OK && function(s, h) != truth.Var(c.v) {
			t.Fatalf("Var(%d) is %x", c.v, function(s, h))
		}
	}
	if s.Len() != 2 {
		t.Errorf("Len %d", s.Len())
	}
}

// P11.1, P11.2: of constants the answer is a constant, in a store without a node.
func TestConstantsAlone(t *testing.T) {
	for _, vars := range []int{1, api.MaxVars} {
		s := store(t, vars, 1)
		for _, o := range ops() {
			each([]api.Handle{0, 1}, o.takes, func(row []api.Handle) {
				if h := call(t, s, o, slices.Clone(row)...); h > 1 || s.Len() != 0 {
					t.Fatalf("%s%v: %d, Len %d", o.name, row, h, s.Len())
				}
			})
		}
	}
}

// P11.1, P11.2: constants, a node, its Not and another one as each argument, the same one as two or all of them too, in all rows; with the cache and without, each row in a store of its own, so that no answer is there by another row.
func TestConstantsAndNodes(t *testing.T) {
	for seed, vars := range []int{1, 2, 3, 5, 8} {
		d := draw(seed + 40)
		f, g := d.function(vars), d.function(vars)
		for _, o := range ops() {
			for _, cached := range []bool{true, false} {
				each([]api.Handle{0, 1, 2, 3, 4}, o.takes, func(row []api.Handle) {
					s := store(t, vars, 500)
					s.Cached(cached)
					l := []api.Handle{0, 1, laid(t, s, f), laid(t, s, truth.Not(f)), laid(t, s, g)}
					var a []api.Handle
					for _, i := range row {
						a = append(a, l[i])
					}
					call(t, s, o, a...)
				})
			}
		}
	}
}

// P11.1: what follows from arguments alike, opposite or constant.
func TestLaws(t *testing.T) {
	s := store(t, 8, 5000)
	not := func(h api.Handle) api.Handle { return call(t, s, ops()[0], h) }
	and := func(g, h api.Handle) api.Handle { return call(t, s, ops()[1], g, h) }
	or := func(g, h api.Handle) api.Handle { return call(t, s, ops()[2], g, h) }
	xor := func(g, h api.Handle) api.Handle { return call(t, s, ops()[3], g, h) }
	ite := func(f, g, h api.Handle) api.Handle { return call(t, s, ops()[4], f, g, h) }
	d := draw(3)
	for range 6 {
		a, b := laid(t, s, d.function(8)), laid(t, s, d.function(8))
		na, nb := not(a), not(b)
		for i, l := range [][2]api.Handle{
			{not(na), a}, {not(0), 1}, {not(1), 0},
			{and(a, a), a}, {and(a, na), 0}, {and(na, a), 0}, {and(a, 0), 0}, {and(1, a), a}, {and(a, b), and(b, a)},
			{or(a, a), a}, {or(a, na), 1}, {or(na, a), 1}, {or(a, 1), 1}, {or(0, a), a}, {or(a, b), not(and(na, nb))},
			{xor(a, a), 0}, {xor(a, na), 1}, {xor(a, 1), na}, {xor(1, a), na}, {xor(0, a), a}, {xor(a, 0), a}, {xor(a, b), xor(na, nb)},
			{ite(a, a, a), a}, {ite(a, 1, 0), a}, {ite(a, 0, 1), na}, {ite(a, b, b), b}, {ite(1, a, b), a}, {ite(0, a, b), b},
			{ite(a, b, 0), and(a, b)}, {ite(a, 1, b), or(a, b)}, {ite(a, nb, b), xor(a, b)}, {ite(na, a, b), and(a, b)}, {ite(a, a, b), or(a, b)}, {ite(a, b, a), and(a, b)},
		} {
			if l[0] != l[1] {
				t.Errorf("law %d: %d and %d", i, l[0], l[1])
			}
		}
	}
}

// P11.1, P11.2: of two variables all functions, in all rows; the nodes of all of them are there behind it, and no more.
func TestAllOfTwo(t *testing.T) {
	for vars := 1; vars <= 2; vars++ {
		functions := 1 << (1 << vars)
		s := store(t, vars, functions-2)
		for n := range functions {
			laid(t, s, spread(api.Func{uint64(n)}, vars))
		}
		all := append([]api.Handle{0, 1}, s.All()...)
		for _, o := range ops() {
			each(all, o.takes, func(row []api.Handle) {
				a := slices.Clone(row)
				f := make([]api.Func, 3)
				for i, h := range a {
					f[i] = function(s, h)
				}
				if h, err := o.do(s, a); err != api.OK || function(s, h) != o.means(f) {
					t.Fatalf("%s%v: %d, %v", o.name, a, h, err)
				}
			})
		}
		if s.Len() != functions-2 {
			t.Errorf("%d nodes of %d functions", s.Len(), functions)
		}
	}
}

// P11.1: of three variables all functions, in all pairs, each with a third one.
func TestAllOfThree(t *testing.T) {
	s := store(t, 3, 254)
	tables, handles := map[api.Handle]api.Func{}, map[api.Func]api.Handle{}
	for n := range uint64(256) {
		f := spread(api.Func{n}, 3)
		h := laid(t, s, f)
		tables[h], handles[f] = f, h
	}
	third := []api.Func{truth.Const(false), truth.Const(true), truth.Var(0), truth.Not(truth.Var(2)), truth.Xor(truth.Var(0), truth.Var(1))}
	for a, f := range tables {
		for b, g := range tables {
			h := third[(a+b)%5]
			for _, o := range ops() {
				want := handles[o.means([]api.Func{f, g, h})]
				if got, err := o.do(s, []api.Handle{a, b, handles[h]}); got != want || err != api.OK {
					t.Fatalf("%s of %x, %x, %x: %d, %v, want %d", o.name, f[0]&255, g[0]&255, h[0]&255, got, err, want)
				}
			}
		}
	}
	if s.Len() != 254 {
		t.Errorf("%d nodes of 256 functions", s.Len())
	}
}

// P11.1, P11.2: drawn functions of one to eight variables, with the cache and without, in stores of little and of the greatest room; what was answered ahead is an argument too.
func TestDrawn(t *testing.T) {
	for vars := 1; vars <= api.MaxVars; vars++ {
		for round := range 12 {
			d := draw(100*vars + round)
			s := store(t, vars, []int{1200, api.MaxSlots, 90}[round%3])
			s.Cached(round%2 == 0)
			known := []api.Handle{0, 1}
			for range 3 {
				if h, ok := lay(s, d.function(vars)); ok {
					known = append(known, h)
				}
			}
			for _, o := range append(ops(), ops()...) {
				a := []api.Handle{known[d.next(len(known))], known[d.next(len(known))], known[d.next(len(known))]}
				known = append(known, call(t, s, o, a[:o.takes]...))
			}
		}
	}
}

// answer is what a call told.
type answer struct {
	h   api.Handle
	err api.Errno
}

// row makes drawn calls, some of which there is no room for; ahead of each the cache is switched as hold tells. What was answered, in order, and all nodes behind it.
func row(t *testing.T, hold func(s *nodes.Store, i int)) ([]answer, map[api.Handle]triple) {
	t.Helper()
	d := draw(17)
	s := store(t, 8, 160)
	known := []api.Handle{0, 1, laid(t, s, d.function(8)), laid(t, s, d.function(8))}
	var answers []answer
	for i := range 80 {
		hold(s, i)
		h, err := ops()[i%5].do(s, []api.Handle{known[d.next(len(known))], known[d.next(len(known))], known[d.next(len(known))]})
		known = append(known, h)
		answers = append(answers, answer{h, err})
	}
	return answers, held(s)
}

// P11.2: the cache changes no answer: the same handles with it, without it, and switched in between.
func TestCached(t *testing.T) {
	first, all := row(t, func(*nodes.Store, int) {})
	if !slices.Contains(first, answer{0, api.ErrFull}) {
		t.Fatalf("nothing is refused: %v", first)
	}
	for way, hold := range []func(s *nodes.Store, i int){
		func(*nodes.Store, int) {},
		func(s *nodes.Store, i int) { s.Cached(false) },
		func(s *nodes.Store, i int) { s.Cached(i%2 == 0) },
		func(s *nodes.Store, i int) { s.Cached(i/7%2 == 1) },
	} {
		if got, nodes := row(t, hold); !slices.Equal(got, first) || !maps.Equal(nodes, all) {
			t.Errorf("way %d: other answers", way)
		}
	}
}

// enough is how many nodes the arguments have, and how many these and the answer, in the first order.
func enough(o op, f []api.Func, vars int) (int, int) {
	first := []int{0, 1, 2, 3, 4, 5, 6, 7}[:vars]
	return truth.Size(f, first), truth.Size(append([]api.Func{o.means(f)}, f...), first)
}

// laidAll is laid of each.
func laidAll(t *testing.T, s *nodes.Store, l []api.Func) []api.Handle {
	t.Helper()
	a := make([]api.Handle, len(l))
	for i, f := range l {
		a[i] = laid(t, s, f)
	}
	return a
}

// P11.2: in room for just the arguments and the answer it is told, in one less and in all less than that ErrFull, with all that was there the same.
func TestRoom(t *testing.T) {
	refused, told := 0, 0
	for round := range 32 {
		vars := 1 + round%8
		for _, o := range ops() {
			d := draw(round)
			f := []api.Func{d.function(vars), d.function(vars), d.function(vars)}[:o.takes]
			have, need := enough(o, f, vars)
			for room := max(have, 1); room <= need+1; room++ {
				s := store(t, vars, room)
				s.Cached(round/8%2 == 0)
				a := laidAll(t, s, f)
				call(t, s, o, a...)
				if room >= need {
					told++
				} else {
					refused++
				}
				if room >= need && s.Len() != need {
					t.Fatalf("%s: %d nodes, want %d", o.name, s.Len(), need)
				}
				for i, h := range a {
					if function(s, h) != f[i] {
						t.Fatalf("%s: argument %d is another one", o.name, i)
					}
				}
			}
		}
	}
	if refused < 100 || told < 100 {
		t.Errorf("%d calls refused, %d told", refused, told)
	}
}

// P11.2: an answer that is there already is told in a full store too, at once and behind an ErrFull.
func TestThereInFull(t *testing.T) {
	for round := range 40 {
		vars := 2 + round%7
		for _, o := range ops() {
			d := draw(round + 77)
			f := []api.Func{d.function(vars), d.function(vars), d.function(vars)}[:o.takes]
			_, need := enough(o, f, vars)
			if need == 0 {
				continue
			}
			s := store(t, vars, need)
			s.Cached(round%2 == 0)
			want := laid(t, s, o.means(f))
			a := laidAll(t, s, f)
			if s.Len() != s.Room() {
				t.Fatalf("%d nodes in room for %d", s.Len(), s.Room())
			}
			for range 2 {
				if got := call(t, s, o, a...); got != want {
					t.Fatalf("%s: %d, want %d", o.name, got, want)
				}
				for v := range vars {
					expect(t, s, "Var", func() (api.Handle, api.Errno) { return logic.Var(s, v) }, truth.Var(v))
				}
			}
		}
	}
}

// P11.2: a Xor doesn't leave the Not of an argument behind, nor an Ite the And of two, nor an Or their Nots.
func TestNothingBesides(t *testing.T) {
	for _, o := range ops() {
		s := store(t, 4, 40)
		a := []api.Handle{laid(t, s, truth.Var(0)), laid(t, s, truth.And(truth.Var(1), truth.Var(3))), laid(t, s, truth.Or(truth.Var(2), truth.Var(3)))}
		call(t, s, o, a[:o.takes]...)
	}
	s := store(t, 2, 4)
	a, b := laid(t, s, truth.Var(0)), laid(t, s, truth.Var(1))
	h, err := logic.Xor(s, a, b)
	if err != api.OK || s.Len() != 4 || s.Low(h) != b || s.Low(s.High(h)) != 1 || s.High(s.High(h)) != 0 {
		t.Errorf("Xor of two variables: %v, %d nodes", err, s.Len())
	}
}

// formula builds a drawn formula by calls, and its table beside it.
func formula(t *testing.T, s *nodes.Store, d *draw, nested int) (api.Handle, api.Func) {
	t.Helper()
	if nested == 0 || d.next(8) == 0 {
		v := d.next(s.Vars())
		h, err := logic.Var(s, v)
		if err != api.OK {
			t.Fatalf("Var(%d): %v", v, err)
		}
		return h, truth.Var(v)
	}
	o := ops()[d.next(5)]
	a, f := make([]api.Handle, o.takes), make([]api.Func, o.takes)
	for i := range a {
		a[i], f[i] = formula(t, s, d, nested-1)
	}
	h, err := o.do(s, a)
	if err != api.OK {
		t.Fatalf("%s%v: %v", o.name, a, err)
	}
	return h, o.means(f)
}

// P11.3: what one builds is what it means: formulas built call by call are their tables, and two are one node just if they mean the same.
func TestMeaning(t *testing.T) {
	for vars := 1; vars <= api.MaxVars; vars++ {
		s := store(t, vars, api.MaxSlots)
		d := draw(vars)
		means, built := map[api.Handle]api.Func{}, map[api.Func]api.Handle{}
		for i := range 150 {
			s.Cached(i%5 != 0)
			h, f := formula(t, s, &d, 1+d.next(6))
			if function(s, h) != f {
				t.Fatalf("%d variables: built is %x, meant %x", vars, function(s, h), f)
			}
			if was, there := built[f]; there && was != h {
				t.Fatalf("%d variables: %d and %d mean the same", vars, was, h)
			}
			if was, there := means[h]; there && was != f {
				t.Fatalf("%d variables: %d means %x and %x", vars, h, was, f)
			}
			means[h], built[f] = f, h
		}
		for h, f := range means {
			if function(s, h) != f {
				t.Fatalf("%d variables: node %d is another function now", vars, h)
			}
		}
	}
}

// DOC.md's rule 6: stores don't know of one another: of the same numbers each tells its own nodes, and makes them in itself.
func TestTwoStores(t *testing.T) {
	d := draw(5)
	s, o := store(t, 3, 60), store(t, 8, 3000)
	for range 4 {
		laid(t, s, d.function(3))
		laid(t, o, d.function(8))
	}
	for i := range 60 {
		others := held(o)
		all := append([]api.Handle{0, 1}, s.All()...)
		a := []api.Handle{all[d.next(len(all))], all[d.next(len(all))], all[d.next(len(all))]}
		x := ops()[i%5]
		call(t, s, x, a[:x.takes]...)
		if !maps.Equal(held(o), others) {
			t.Fatalf("%s changed another store", x.name)
		}
		others = held(s)
		call(t, o, x, a[:x.takes]...)
		if !maps.Equal(held(s), others) {
			t.Fatalf("%s changed another store", x.name)
		}
	}
	// A handle of the one is none of the other, if that one has no such node.
	n := slices.Max(o.All())
	if s.Is(n) {
		t.Fatalf("%d is a node of both", n)
	}
	for _, x := range ops() {
		refuses(t, s, x, []api.Handle{n, 1, 0})
	}
}

// DOC.md's rule 6: the same calls, the same handles.
func TestSameAgain(t *testing.T) {
	s, o := store(t, 6, 3000), store(t, 6, 3000)
	d, e := draw(9), draw(9)
	for range 40 {
		g, _ := formula(t, s, &d, 4)
		h, _ := formula(t, o, &e, 4)
		if g != h {
			t.Fatalf("%d and %d of the same calls", g, h)
		}
	}
	if !maps.Equal(held(s), held(o)) {
		t.Error("other nodes of the same calls")
	}
}
