package build_test

import (
	"maps"
	"math"
	"slices"
	"testing"

	"spinney/api"
	"spinney/build"
	"spinney/logic"
	"spinney/nodes"
	"spinney/truth"
)

// great are handles that no store gives out: from 2^28 on, those among them of which the lowest 28 bits are a constant's or a node's.
var great = []api.Handle{1 << 28, 1<<28 + 1, 1<<28 + 2, 1<<28 + 3, 1 << 29, 1<<31 - 1, 1 << 31, 1<<31 + 2, math.MaxUint32 - 1, math.MaxUint32}

// store makes a store.
func store(t *testing.T, vars, room int) *nodes.Store {
	t.Helper()
	s, err := nodes.New(vars, room)
	if err != api.OK {
		t.Fatalf("New(%d, %d): %v", vars, room, err)
	}
	return s
}

// triple is what an inner node is made of.
type triple struct {
	level     int
	low, high api.Handle
}

// held is all inner nodes of s.
func held(s *nodes.Store) map[api.Handle]triple {
	m := map[api.Handle]triple{}
	for _, h := range s.All() {
		m[h] = triple{s.Level(h), s.Low(h), s.High(h)}
	}
	return m
}

// same fails unless s holds just the nodes that it held.
func same(t *testing.T, s *nodes.Store, was map[api.Handle]triple) {
	t.Helper()
	if s.Len() != len(was) || !maps.Equal(held(s), was) {
		t.Fatalf("%d nodes: %v, there were %v", s.Len(), held(s), was)
	}
}

// path is the way down from h at assignment x: the mask of the variables on it, their values, and the constant at its end.
func path(s *nodes.Store, vars []int, h api.Handle, x int) ([2]uint8, api.Handle) {
	var p [2]uint8
	for h > 1 {
		bit := 1 << vars[s.Level(h)]
		p[0] |= uint8(bit)
		p[1] |= uint8(x & bit)
		if x&bit != 0 {
			h = s.High(h)
		} else {
			h = s.Low(h)
		}
	}
	return p, h
}

// function is the table of the node's function, by walks at all assignments.
func function(s *nodes.Store, h api.Handle) api.Func {
	var f api.Func
	vars := s.Order().All()
	for x := range 256 {
		_, end := path(s, vars, h, x)
		f[x/64] |= uint64(end) << (x % 64)
	}
	return f
}

// paths are the ways from h to 1, by walks at all assignments, those with a lower value at an upper level first.
func paths(s *nodes.Store, h api.Handle) [][2]uint8 {
	var l [][2]uint8
	vars := s.Order().All()
	for n := range 1 << len(vars) {
		x := 0
		for level, v := range vars {
			x |= n >> (len(vars) - 1 - level) & 1 << v
		}
		p, end := path(s, vars, h, x)
		if end == 1 && !slices.Contains(l, p) {
			l = append(l, p)
		}
	}
	return l
}

// parts are the functions of a function's inner nodes, f's own among them, in that order.
func parts(f api.Func, order []int) map[api.Func]bool {
	found := map[api.Func]bool{}
	above := map[api.Func]bool{f: true}
	for _, v := range order {
		below := map[api.Func]bool{}
		for g := range above {
			low, high := truth.Fix(g, v, false), truth.Fix(g, v, true)
			if low != high {
				found[g] = true
			}
			below[low], below[high] = true, true
		}
		above = below
	}
	return found
}

// lacking are the functions of the nodes of f that s doesn't hold.
func lacking(s *nodes.Store, f api.Func) map[api.Func]bool {
	l := parts(f, s.Order().All())
	for _, h := range s.All() {
		delete(l, function(s, h))
	}
	return l
}

// laid makes the node of f by Mk alone.
func laid(t *testing.T, s *nodes.Store, f api.Func) api.Handle {
	t.Helper()
	var down func(f api.Func, level int) api.Handle
	down = func(f api.Func, level int) api.Handle {
		if level == s.Vars() {
			return api.Handle(f[0] & 1)
		}
		v := s.Order().Var(level)
		h, err := s.Mk(level, down(truth.Fix(f, v, false), level+1), down(truth.Fix(f, v, true), level+1))
		if err != api.OK {
			t.Fatalf("no room for %x: %v", f, err)
		}
		return h
	}
	return down(f, 0)
}

// expect makes a call and fails unless it answers the node of want, has made as many nodes as it lacked, and makes none when it is made again; or, where there isn't room for all of them, ErrFull, with none made but such nodes. What was there is there still. It tells the answer, 0 beside ErrFull.
func expect(t *testing.T, s *nodes.Store, name string, do func() (api.Handle, api.Errno), want api.Func) api.Handle {
	t.Helper()
	was, lack := held(s), lacking(s, want)
	h, err := do()
	now := held(s)
	for n, k := range was {
		if now[n] != k {
			t.Fatalf("%s: node %d was %v, is %v", name, n, k, now[n])
		}
	}
	for n := range now {
		if _, there := was[n]; !there && !lack[function(s, n)] {
			t.Fatalf("%s: node %d isn't the answer's", name, n)
		}
	}
	if s.Room()-len(was) < len(lack) {
		if h != 0 || err != api.ErrFull {
			t.Fatalf("%s: %d, %v without room", name, h, err)
		}
		return 0
	}
	if err != api.OK || !s.Is(h) || function(s, h) != want {
		t.Fatalf("%s: %d, %v: %x, want %x", name, h, err, function(s, h), want)
	}
	if s.Len() != len(was)+len(lack) {
		t.Fatalf("%s: %d nodes made, want %d", name, s.Len()-len(was), len(lack))
	}
	if again, err := do(); again != h || err != api.OK {
		t.Fatalf("%s again: %d, %v, it was %d", name, again, err, h)
	}
	same(t, s, now)
	return h
}

// from has From expected of f.
func from(t *testing.T, s *nodes.Store, f api.Func) api.Handle {
	t.Helper()
	return expect(t, s, "From", func() (api.Handle, api.Errno) { return build.From(s, f) }, f)
}

// product is the table of a cube, by each assignment.
func product(mask, vals uint8) api.Func {
	var f api.Func
	for x := range 256 {
		if uint8(x)&mask == vals&mask {
			f[x/64] |= 1 << (x % 64)
		}
	}
	return f
}

// cube has Cube expected of mask and vals.
func cube(t *testing.T, s *nodes.Store, mask, vals uint8) api.Handle {
	t.Helper()
	return expect(t, s, "Cube", func() (api.Handle, api.Errno) { return build.Cube(s, mask, vals) }, product(mask, vals))
}

// tells fails unless Func and Cubes tell of h, which is the node of f, its table and its paths, and leave the store as it was.
func tells(t *testing.T, s *nodes.Store, h api.Handle, f api.Func) {
	t.Helper()
	was := held(s)
	if g, err := build.Func(s, h); g != f || err != api.OK {
		t.Fatalf("Func(%d): %x, %v, want %x", h, g, err, f)
	}
	if l, err := build.Cubes(s, h); !slices.Equal(l, paths(s, h)) || err != api.OK {
		t.Fatalf("Cubes(%d): %x, %v, want %x", h, l, err, paths(s, h))
	}
	same(t, s, was)
}

// order is the first order of so many variables.
func order(vars int) []int { return []int{0, 1, 2, 3, 4, 5, 6, 7}[:vars] }

// over is the function of so many variables that is true at those of the first 64 assignments whose bits are set.
func over(vars int, bits uint64) api.Func {
	return truth.Restrict(api.Func{bits}, uint8(255<<vars), 0)
}

// draw is a row of numbers without a pattern.
type draw uint64

func (d *draw) next(below int) int {
	*d = *d*6364136223846793005 + 1442695040888963407
	return int(uint64(*d) >> 33 % uint64(below))
}

// function draws a function of so many variables: true often or seldom, hanging on all variables or on some.
func (d *draw) function(vars int) api.Func {
	var f api.Func
	often := d.next(17)
	for x := range 1 << vars {
		if d.next(16) < often {
			f[x/64] |= 1 << (x % 64)
		}
	}
	f = truth.Restrict(f, uint8(255<<vars), 0)
	if d.next(3) == 0 {
		f = truth.Restrict(f, uint8(d.next(256)), uint8(d.next(256)))
	}
	return f
}

// P15.2: the chapter's example: the cubes of a variable are one, of it alone, and it is true there.
func TestExample(t *testing.T) {
	for vars := 1; vars <= api.MaxVars; vars++ {
		s := store(t, vars, vars)
		for v := range vars {
			h, _ := logic.Var(s, v)
			l, err := build.Cubes(s, h)
			if !slices.Equal(l, [][2]uint8{{1 << v, 1 << v}}) || err != api.OK {
				t.Errorf("%d variables: Cubes of variable %d: %x, %v", vars, v, l, err)
			}
		}
	}
}

// P15.1, P15.2: what is told of one function, by hand: it is true where variable 0 is and 2 isn't, or where 1 and 2 are.
func TestByHand(t *testing.T) {
	const table = 0xcacacacacacacaca
	f := api.Func{table, table, table, table}
	s := store(t, 4, 20)
	h, err := build.From(s, f)
	if err != api.OK || s.Len() != 5 {
		t.Fatalf("From: %d, %v, %d nodes", h, err, s.Len())
	}
	c, d := s.Low(h), s.High(h)
	a, b := s.Low(d), s.High(c)
	for n, want := range map[api.Handle]triple{h: {0, c, d}, c: {1, 0, b}, d: {1, a, 1}, a: {2, 1, 0}, b: {2, 0, 1}} {
		if got := held(s)[n]; got != want {
			t.Errorf("node %d is %v, want %v", n, got, want)
		}
	}
	if g, err := build.Func(s, h); g != f || err != api.OK {
		t.Errorf("Func: %x, %v", g, err)
	}
	if l, err := build.Cubes(s, h); !slices.Equal(l, [][2]uint8{{7, 6}, {7, 1}, {3, 3}}) || err != api.OK {
		t.Errorf("Cubes: %x, %v", l, err)
	}
	// Variable 2 is true and 1 isn't.
	n, err := build.Cube(s, 6, 4)
	if err != api.OK || s.Len() != 6 || held(s)[n] != (triple{1, b, 0}) {
		t.Errorf("Cube: %v, %v, %d nodes", held(s)[n], err, s.Len())
	}
}

// P15.1, P15.2: the constants are there in every store, and nothing is made of them: 0 has no path, 1 has one without a variable.
func TestConstants(t *testing.T) {
	for vars := 1; vars <= api.MaxVars; vars++ {
		s := store(t, vars, 300)
		for range 2 {
			was := held(s)
			for h, f := range map[api.Handle]api.Func{0: truth.Const(false), 1: truth.Const(true)} {
				if got := from(t, s, f); got != h {
					t.Errorf("%d variables: From of constant %d: %d", vars, h, got)
				}
				tells(t, s, h, f)
			}
			if l, err := build.Cubes(s, 0); len(l) != 0 || err != api.OK {
				t.Errorf("%d variables: Cubes(0): %x, %v", vars, l, err)
			}
			if l, err := build.Cubes(s, 1); !slices.Equal(l, [][2]uint8{{0, 0}}) || err != api.OK {
				t.Errorf("%d variables: Cubes(1): %x, %v", vars, l, err)
			}
			same(t, s, was)
			d := draw(vars)
			laid(t, s, d.function(vars))
		}
	}
}

// P15.1: each variable, and its Not, by From and by Cube, in room for both; Var's node is one with them.
func TestVariables(t *testing.T) {
	for vars := 1; vars <= api.MaxVars; vars++ {
		for v := range vars {
			s := store(t, vars, 2)
			h := from(t, s, truth.Var(v))
			if other, err := logic.Var(s, v); other != h || err != api.OK {
				t.Errorf("%d variables: From of variable %d: %d, Var %d, %v", vars, v, h, other, err)
			}
			if other := cube(t, s, 1<<v, 1<<v); other != h || s.Len() != 1 {
				t.Errorf("%d variables: Cube of variable %d: %d, From's %d", vars, v, other, h)
			}
			tells(t, s, h, truth.Var(v))
			n := cube(t, s, 1<<v, 0)
			if other := from(t, s, truth.Not(truth.Var(v))); other != n || s.Len() != 2 {
				t.Errorf("%d variables: not %d: %d and %d", vars, v, n, other)
			}
			tells(t, s, n, truth.Not(truth.Var(v)))
		}
	}
}

// P15.1, P15.2, P15.3: all functions of up to three variables, each in an empty store of these and of more variables, and all of them in one.
func TestAllOfThree(t *testing.T) {
	for vars := 1; vars <= 3; vars++ {
		for _, more := range []int{0, 1, api.MaxVars - vars} {
			all := store(t, vars+more, 300)
			for n := range uint64(1) << (1 << vars) {
				f := over(vars, n)
				alone := store(t, vars+more, 10)
				tells(t, alone, from(t, alone, f), f)
				if want := truth.Size([]api.Func{f}, order(vars+more)); alone.Len() != want {
					t.Fatalf("From of %x: %d nodes, want %d", f, alone.Len(), want)
				}
				h, err := build.From(all, f)
				if err != api.OK {
					t.Fatalf("From of %x: %v", f, err)
				}
				tells(t, all, h, f)
			}
			// All functions but the constants are nodes now.
			if all.Len() != 1<<(1<<vars)-2 {
				t.Errorf("%d nodes of the functions of %d variables", all.Len(), vars)
			}
		}
	}
}

// P15.1, P15.2, P15.3: drawn functions of up to eight variables, in stores of these and of more, with the cache and without; the nodes of all of them, and no others, are there behind it.
func TestDrawn(t *testing.T) {
	for vars := 1; vars <= api.MaxVars; vars++ {
		d := draw(vars + 40)
		for round := range 20 {
			s := store(t, vars+d.next(api.MaxVars-vars+1), 1000)
			s.Cached(round%2 == 0)
			var l []api.Func
			for range 3 {
				f := d.function(vars)
				l = append(l, f)
				tells(t, s, from(t, s, f), f)
				if want := truth.Size(l, order(s.Vars())); s.Len() != want {
					t.Fatalf("%d nodes of %x, want %d", s.Len(), l, want)
				}
			}
		}
	}
}

// P15.1: functions that hang on all variables: parity, where all are true, where none is, and where most are.
func TestOfAllVariables(t *testing.T) {
	for vars := 1; vars <= api.MaxVars; vars++ {
		parity, and, or, sum := truth.Const(false), truth.Const(true), truth.Const(false), [api.MaxVars + 1]api.Func{truth.Const(true)}
		for v := range vars {
			x := truth.Var(v)
			parity, and, or = truth.Xor(parity, x), truth.And(and, x), truth.Or(or, x)
			for n := v + 1; n > 0; n-- {
				sum[n] = truth.Ite(x, sum[n-1], sum[n])
			}
		}
		for _, f := range []api.Func{parity, and, or, truth.Not(parity), truth.Not(and), truth.Not(or), sum[(vars+1)/2]} {
			s := store(t, vars, 300)
			h := from(t, s, f)
			tells(t, s, h, f)
			if f == parity && s.Len() != 2*vars-1 || (f == and || f == or) && s.Len() != vars {
				t.Errorf("%d variables: %d nodes of %x", vars, s.Len(), f)
			}
		}
		s := store(t, vars, 300)
		// Each variable is on each path of parity.
		if l, err := build.Cubes(s, from(t, s, parity)); len(l) != 1<<(vars-1) || err != api.OK {
			t.Errorf("%d variables: parity has %d paths, %v", vars, len(l), err)
		}
	}
}

// noFrom fails unless From refuses f by ErrVar, and changes nothing.
func noFrom(t *testing.T, s *nodes.Store, f api.Func) {
	t.Helper()
	was := held(s)
	if h, err := build.From(s, f); h != 0 || err != api.ErrVar {
		t.Fatalf("%d variables: From of %x: %d, %v", s.Vars(), f, h, err)
	}
	same(t, s, was)
}

// P15.1: From of what hangs on a variable from Vars on is refused by ErrVar, alone and beside variables that are there, however seldom it hangs on it, in stores that are empty, full, or neither; nothing is made.
func TestFromNoVariable(t *testing.T) {
	for vars := 1; vars < api.MaxVars; vars++ {
		for _, room := range []int{1, 40, api.MaxSlots} {
			d := draw(10*vars + room)
			s := store(t, vars, room)
			for range 2 {
				for v := vars; v < api.MaxVars; v++ {
					x := truth.Var(v)
					noFrom(t, s, x)
					noFrom(t, s, truth.Not(x))
					for w := range vars {
						noFrom(t, s, truth.And(x, truth.Var(w)))
						noFrom(t, s, truth.Xor(x, truth.Var(w)))
						noFrom(t, s, truth.Ite(truth.Var(w), x, truth.Const(true)))
					}
					for range 4 {
						noFrom(t, s, truth.Xor(x, d.function(vars)))
					}
				}
				for x := range 256 {
					var odd api.Func
					odd[x/64] = 1 << (x % 64)
					noFrom(t, s, odd)
					noFrom(t, s, truth.Xor(odd, d.function(vars)))
				}
				laid(t, s, truth.Var(vars-1))
			}
		}
	}
}

// P15.1: a store of MaxVars has all variables: no table is refused, be it true at one assignment alone.
func TestFromOfMaxVars(t *testing.T) {
	s := store(t, api.MaxVars, api.MaxSlots)
	for x := range 256 {
		var f api.Func
		f[x/64] = 1 << (x % 64)
		h, err := build.From(s, f)
		n, other := build.From(s, truth.Not(f))
		if err != api.OK || other != api.OK || function(s, h) != f || function(s, n) != truth.Not(f) {
			t.Fatalf("From where %d is the only one: %d, %v, and its Not %d, %v", x, h, err, n, other)
		}
		if c, err := build.Cube(s, 255, uint8(x)); c != h || err != api.OK {
			t.Fatalf("Cube of all variables at %d: %d, %v, From's %d", x, c, err, h)
		}
	}
}

// refuses fails unless Func and Cubes refuse n, with zeros beside the error, and change nothing.
func refuses(t *testing.T, s *nodes.Store, n api.Handle) {
	t.Helper()
	was := held(s)
	if f, err := build.Func(s, n); f != (api.Func{}) || err != api.ErrNode {
		t.Fatalf("Func(%d): %x, %v", n, f, err)
	}
	if l, err := build.Cubes(s, n); len(l) != 0 || err != api.ErrNode {
		t.Fatalf("Cubes(%d): %x, %v", n, l, err)
	}
	same(t, s, was)
}

// P15.1, P15.2: what isn't a node is refused by Func and Cubes, in stores that are empty, full, or neither.
func TestNoNode(t *testing.T) {
	for _, vars := range []int{1, 3, api.MaxVars} {
		for _, room := range []int{1, 50, api.MaxSlots} {
			s := store(t, vars, room)
			for range 2 {
				next := api.Handle(2 + s.Len())
				for _, n := range append([]api.Handle{next, next + 1, 100, 1<<15 + 2, 1<<28 - 1}, great...) {
					refuses(t, s, n)
				}
				laid(t, s, truth.Var(vars-1))
			}
		}
	}
}

// P15.1: Cube of all masks and all vals in stores of one to eight variables: what is fixed alike is one node, true just there; bits of vals outside of mask change nothing, be they of variables or of none. Each cube but the one of no variable is a node, and there are no others.
func TestAllCubes(t *testing.T) {
	all := 1
	for vars := 1; vars <= api.MaxVars; vars++ {
		all *= 3
		s := store(t, vars, all-1)
		met := map[[2]uint8]api.Handle{}
		for mask := range 1 << vars {
			for vals := range 256 {
				h, err := build.Cube(s, uint8(mask), uint8(vals))
				if err != api.OK {
					t.Fatalf("%d variables: Cube(%x, %x): %v", vars, mask, vals, err)
				}
				fixed := [2]uint8{uint8(mask), uint8(mask & vals)}
				was, there := met[fixed]
				if there && was != h {
					t.Fatalf("%d variables: Cube(%x, %x): %d, it was %d", vars, mask, vals, h, was)
				}
				if !there && function(s, h) != product(uint8(mask), uint8(vals)) {
					t.Fatalf("%d variables: Cube(%x, %x) is %x", vars, mask, vals, function(s, h))
				}
				met[fixed] = h
			}
		}
		if len(met) != all || s.Len() != all-1 {
			t.Errorf("%d variables: %d cubes, %d nodes", vars, len(met), s.Len())
		}
	}
}

// P15.1, P15.2, P15.3: a cube has as many nodes as variables, one path, which is the cube, and its table is From's.
func TestCube(t *testing.T) {
	for vars := 1; vars <= api.MaxVars; vars++ {
		d := draw(vars + 60)
		for mask := range 1 << vars {
			vals := uint8(d.next(256))
			s := store(t, vars, vars)
			s.Cached(mask%2 == 0)
			h := cube(t, s, uint8(mask), vals)
			tells(t, s, h, product(uint8(mask), vals))
			many := 0
			for v := range vars {
				many += mask >> v & 1
			}
			if s.Len() != many {
				t.Fatalf("Cube(%x, %x): %d nodes", mask, vals, s.Len())
			}
			if l, err := build.Cubes(s, h); !slices.Equal(l, [][2]uint8{{uint8(mask), uint8(mask) & vals}}) || err != api.OK {
				t.Fatalf("Cubes of Cube(%x, %x): %x, %v", mask, vals, l, err)
			}
			if other, err := build.From(s, product(uint8(mask), vals)); other != h || err != api.OK {
				t.Fatalf("Cube(%x, %x): %d, From's %d, %v", mask, vals, h, other, err)
			}
		}
	}
}

// P15.1: the cube of no variable is 1, whatever vals are, and nothing is made of it.
func TestCubeOfNothing(t *testing.T) {
	for vars := 1; vars <= api.MaxVars; vars++ {
		s := store(t, vars, 1)
		for range 2 {
			was := held(s)
			for vals := range 256 {
				if h, err := build.Cube(s, 0, uint8(vals)); h != 1 || err != api.OK {
					t.Errorf("%d variables: Cube(0, %x): %d, %v", vars, vals, h, err)
				}
			}
			same(t, s, was)
			laid(t, s, truth.Var(0))
		}
	}
}

// P15.1: a mask with a variable from Vars on is refused by ErrVar, alone and beside ones that are there, whatever vals are, in an empty store and in a full one, which would refuse what is there by ErrFull; nothing is made.
func TestCubeNoVariable(t *testing.T) {
	for vars := 1; vars < api.MaxVars; vars++ {
		s := store(t, vars, 1)
		for range 2 {
			was := held(s)
			for mask := 1 << vars; mask < 256; mask++ {
				for _, vals := range []uint8{0, 1, uint8(mask), ^uint8(mask), 255} {
					if h, err := build.Cube(s, uint8(mask), vals); h != 0 || err != api.ErrVar {
						t.Fatalf("%d variables: Cube(%x, %x): %d, %v", vars, mask, vals, h, err)
					}
				}
			}
			same(t, s, was)
			laid(t, s, truth.Var(vars-1))
		}
	}
}

// P15.1: in a store that holds one function, From of another, and a cube: told in room for both, ErrFull in all less, with what was there as it was.
func TestRoom(t *testing.T) {
	refused, told := 0, 0
	for round := range 64 {
		vars := 1 + round%8
		d := draw(round)
		f, g, mask, vals := d.function(vars), d.function(vars), uint8(d.next(1<<vars)), uint8(d.next(256))
		for _, c := range []struct {
			want api.Func
			do   func(s *nodes.Store) api.Handle
		}{
			{g, func(s *nodes.Store) api.Handle { return from(t, s, g) }},
			{product(mask, vals), func(s *nodes.Store) api.Handle { return cube(t, s, mask, vals) }},
		} {
			have, need := truth.Size([]api.Func{f}, order(vars)), truth.Size([]api.Func{f, c.want}, order(vars))
			for room := max(have, 1); room <= need+1; room++ {
				s := store(t, vars, room)
				s.Cached(round/8%2 == 0)
				a := laid(t, s, f)
				h := c.do(s)
				tells(t, s, a, f)
				if room < need {
					refused++
					continue
				}
				told++
				tells(t, s, h, c.want)
				if s.Len() != need {
					t.Fatalf("%d nodes, want %d", s.Len(), need)
				}
			}
		}
	}
	if refused < 100 || told < 100 {
		t.Errorf("%d calls refused, %d told", refused, told)
	}
}

// P15.1: what is there already is told in a full store too, at once and behind an ErrFull.
func TestThereInFull(t *testing.T) {
	for round := range 40 {
		vars := 2 + round%7
		d := draw(round + 77)
		mask, vals := uint8(1+d.next(1<<vars-1)), uint8(d.next(256))
		f, c := truth.Or(d.function(vars), truth.Var(0)), product(mask, vals)
		s := store(t, vars, truth.Size([]api.Func{f, c}, order(vars)))
		s.Cached(round%2 == 0)
		a, b := laid(t, s, f), laid(t, s, c)
		if s.Len() != s.Room() {
			t.Fatalf("%d nodes in room for %d", s.Len(), s.Room())
		}
		for range 2 {
			if h := from(t, s, f); h != a {
				t.Fatalf("From: %d, want %d", h, a)
			}
			if h := cube(t, s, mask, vals); h != b {
				t.Fatalf("Cube(%x, %x): %d, want %d", mask, vals, h, b)
			}
			if h := from(t, s, c); h != b {
				t.Fatalf("From of a cube: %d, want %d", h, b)
			}
			from(t, s, d.function(vars))
			cube(t, s, uint8(d.next(1<<vars)), uint8(d.next(256)))
			tells(t, s, a, f)
			tells(t, s, b, c)
		}
	}
}

// P15.1: nothing is made besides: a Xor's store has no node of its first variable, and a cube's none of a variable but the lowest.
func TestNothingBesides(t *testing.T) {
	s := store(t, 2, 3)
	h := from(t, s, truth.Xor(truth.Var(0), truth.Var(1)))
	if s.Len() != 3 || s.Level(s.Low(h)) != 1 || s.Level(s.High(h)) != 1 {
		t.Errorf("Xor: %v", held(s))
	}
	s = store(t, api.MaxVars, api.MaxVars)
	cube(t, s, 255, 255)
	for v := range api.MaxVars - 1 {
		if len(lacking(s, truth.Var(v))) == 0 {
			t.Errorf("the cube of all has made variable %d", v)
		}
	}
}

// covers fails unless the paths of h cover each assignment where f is true, once, and no other.
func covers(t *testing.T, s *nodes.Store, h api.Handle, f api.Func) {
	t.Helper()
	l, err := build.Cubes(s, h)
	if err != api.OK {
		t.Fatalf("Cubes(%d): %v", h, err)
	}
	for x := range 256 {
		in := 0
		for _, c := range l {
			if uint8(x)&c[0] == c[1] {
				in++
			}
		}
		if want := truth.Eval(f, uint8(x)); in > 1 || (in == 1) != want {
			t.Fatalf("Cubes(%d): %d of them at %d, where it is %t", h, in, x, want)
		}
	}
	for _, c := range l {
		if c[1]&^c[0] != 0 || c[0]>>s.Vars() != 0 {
			t.Fatalf("Cubes(%d): %x", h, c)
		}
	}
}

// P15.2: the paths of drawn functions of up to eight variables are one by one those that a walk goes, lie apart, and cover the function.
func TestCubes(t *testing.T) {
	for vars := 1; vars <= api.MaxVars; vars++ {
		d := draw(vars + 120)
		for range 20 {
			s := store(t, vars, 1000)
			f := d.function(vars)
			h := laid(t, s, f)
			tells(t, s, h, f)
			covers(t, s, h, f)
			for _, h := range s.All() {
				tells(t, s, h, function(s, h))
			}
		}
	}
}

// P15.2: a Low's paths are ahead of its High's, at each node: with the node's variable, false and true.
func TestLowAhead(t *testing.T) {
	d := draw(150)
	s := store(t, api.MaxVars, 1000)
	for range 6 {
		laid(t, s, d.function(api.MaxVars))
	}
	for _, h := range s.All() {
		bit := uint8(1) << s.Order().Var(s.Level(h))
		var want [][2]uint8
		low, _ := build.Cubes(s, s.Low(h))
		for _, c := range low {
			want = append(want, [2]uint8{c[0] | bit, c[1]})
		}
		high, _ := build.Cubes(s, s.High(h))
		for _, c := range high {
			want = append(want, [2]uint8{c[0] | bit, c[1] | bit})
		}
		if l, err := build.Cubes(s, h); !slices.Equal(l, want) || err != api.OK {
			t.Fatalf("Cubes(%d): %x, %v, its children's %x and %x", h, l, err, low, high)
		}
	}
}

// P15.2, P15.3: the or of Cube over the paths is the handle itself.
func TestOrOfCubes(t *testing.T) {
	for vars := 1; vars <= api.MaxVars; vars++ {
		d := draw(vars + 200)
		for range 10 {
			s := store(t, vars, api.MaxSlots)
			for _, h := range []api.Handle{0, 1, laid(t, s, d.function(vars))} {
				l, err := build.Cubes(s, h)
				if err != api.OK {
					t.Fatalf("Cubes(%d): %v", h, err)
				}
				or := api.False
				for _, c := range l {
					one, first := build.Cube(s, c[0], c[1])
					both, second := logic.Or(s, or, one)
					if first != api.OK || second != api.OK {
						t.Fatalf("Cube(%x, %x): %v, Or: %v", c[0], c[1], first, second)
					}
					or = both
				}
				if or != h {
					t.Fatalf("%d variables: %d or-ed of its paths is %d", vars, h, or)
				}
			}
		}
	}
}

// P15.3: to and fro it is the same: From of each node's Func is the node, in the store that it is of, and in another its function.
func TestToAndFro(t *testing.T) {
	for vars := 1; vars <= api.MaxVars; vars++ {
		d := draw(vars + 240)
		s, other := store(t, vars, api.MaxSlots), store(t, api.MaxVars, api.MaxSlots)
		for range 8 {
			laid(t, s, d.function(vars))
		}
		was := held(s)
		for _, h := range append([]api.Handle{0, 1}, s.All()...) {
			f, err := build.Func(s, h)
			if err != api.OK {
				t.Fatalf("Func(%d): %v", h, err)
			}
			if back, err := build.From(s, f); back != h || err != api.OK {
				t.Fatalf("From of Func(%d): %d, %v", h, back, err)
			}
			there, first := build.From(other, f)
			if g, second := build.Func(other, there); g != f || first+second != api.OK {
				t.Fatalf("Func(%d) is %x, in another store %x, %v, %v", h, f, g, first, second)
			}
		}
		same(t, s, was)
	}
}

// DOC.md's rule 3: what Cubes answers is the caller's own, its spare room too: whatever is written there, neither an answer of before nor one behind it is touched, and an answer stays as it is when others are told.
func TestOwnAnswer(t *testing.T) {
	for vars := 1; vars <= api.MaxVars; vars++ {
		d := draw(vars + 280)
		s := store(t, vars, 1000)
		for _, h := range []api.Handle{0, 1, laid(t, s, d.function(vars)), laid(t, s, truth.Var(vars-1))} {
			want := paths(s, h)
			before, _ := build.Cubes(s, h)
			l, _ := build.Cubes(s, h)
			for i := range l[:cap(l)] {
				l[:cap(l)][i] = [2]uint8{0xee, 0xee}
			}
			written := slices.Clone(l[:cap(l)])
			if !slices.Equal(before, want) {
				t.Errorf("%d variables: Cubes(%d) was %x, is %x", vars, h, want, before)
			}
			after, _ := build.Cubes(s, h)
			for _, other := range append([]api.Handle{1}, s.All()...) {
				build.Cubes(s, other)
			}
			if !slices.Equal(before, want) || !slices.Equal(after, want) || !slices.Equal(l[:cap(l)], written) {
				t.Errorf("%d variables: Cubes(%d): %x and %x, want %x", vars, h, before, after, want)
			}
		}
	}
}

// answer is what a call told.
type answer struct {
	h   api.Handle
	err api.Errno
}

// row makes drawn calls, some of which there is no room for; ahead of each the cache is switched as hold tells. What was answered, in order, and all nodes behind it.
func row(t *testing.T, hold func(s *nodes.Store, i int)) ([]answer, map[api.Handle]triple) {
	t.Helper()
	d := draw(17)
	s := store(t, api.MaxVars, 250)
	var answers []answer
	for i := range 80 {
		hold(s, i)
		h, err := build.From(s, d.function(1+i%api.MaxVars))
		answers = append(answers, answer{h, err})
		h, err = build.Cube(s, uint8(d.next(256)), uint8(d.next(256)))
		answers = append(answers, answer{h, err})
	}
	return answers, held(s)
}

// DOC.md's rule 6: the same calls, the same handles; and the cache changes no answer: with it, without it, and switched in between.
func TestCached(t *testing.T) {
	first, all := row(t, func(*nodes.Store, int) {})
	if !slices.Contains(first, answer{0, api.ErrFull}) {
		t.Fatalf("nothing is refused: %v", first)
	}
	for way, hold := range []func(s *nodes.Store, i int){
		func(*nodes.Store, int) {},
		func(s *nodes.Store, i int) { s.Cached(false) },
		func(s *nodes.Store, i int) { s.Cached(i%2 == 0) },
		func(s *nodes.Store, i int) { s.Cached(i/7%2 == 1) },
	} {
		if got, nodes := row(t, hold); !slices.Equal(got, first) || !maps.Equal(nodes, all) {
			t.Errorf("way %d: other answers", way)
		}
	}
}

// DOC.md's rule 6: stores don't know of one another: of the same numbers each tells its own nodes, and makes them in itself.
func TestTwoStores(t *testing.T) {
	d := draw(5)
	small, big := store(t, 3, 60), store(t, api.MaxVars, 5000)
	for range 40 {
		f, mask, vals := d.function(3), uint8(d.next(8)), uint8(d.next(256))
		was := held(big)
		from(t, small, f)
		cube(t, small, mask, vals)
		same(t, big, was)
		was = held(small)
		from(t, big, d.function(api.MaxVars))
		from(t, big, f)
		cube(t, big, mask, vals)
		cube(t, big, uint8(d.next(256)), vals)
		same(t, small, was)
	}
	for _, h := range small.All() {
		// Numbers that both have are unlike nodes: each tells by its own.
		tells(t, small, h, function(small, h))
		tells(t, big, h, function(big, h))
	}
	n := slices.Max(big.All())
	if small.Is(n) {
		t.Fatalf("%d is a node of both", n)
	}
	refuses(t, small, n)
	tells(t, big, n, function(big, n))
}

// P15.1: a store of room for the most, filled by From to the last slot: from then on what is there is told, and all else refused.
func TestGreatestStore(t *testing.T) {
	d := draw(360)
	s := store(t, api.MaxVars, api.MaxSlots)
	var l []api.Func
	for s.Len() < s.Room() {
		f := d.function(api.MaxVars)
		if _, err := build.From(s, f); err == api.OK {
			l = append(l, f)
		} else if err != api.ErrFull || s.Len() != s.Room() {
			t.Fatalf("From: %v, %d nodes in room for %d", err, s.Len(), s.Room())
		}
	}
	was := held(s)
	for _, f := range l {
		h, err := build.From(s, f)
		if g, other := build.Func(s, h); g != f || err != api.OK || other != api.OK {
			t.Fatalf("From: %d, %v, Func of it: %x, %v, want %x", h, err, g, other, f)
		}
	}
	same(t, s, was)
	expect(t, s, "From", func() (api.Handle, api.Errno) { return build.From(s, l[0]) }, l[0])
}
