package quant_test

import (
	"maps"
	"math"
	"slices"
	"testing"

	"spinney/api"
	"spinney/logic"
	"spinney/nodes"
	"spinney/quant"
	"spinney/truth"
)

// op is one of the calls, and what it means. Those that take no vals don't look at them.
type op struct {
	name  string
	do    func(s *nodes.Store, a api.Handle, mask, vals uint8) (api.Handle, api.Errno)
	means func(f api.Func, mask, vals uint8) api.Func
}

func ops() []op {
	return []op{
		{"Exists", func(s *nodes.Store, a api.Handle, mask, _ uint8) (api.Handle, api.Errno) {
			return quant.Exists(s, a, mask)
		}, func(f api.Func, mask, _ uint8) api.Func { return truth.Exists(f, mask) }},
		{"Forall", func(s *nodes.Store, a api.Handle, mask, _ uint8) (api.Handle, api.Errno) {
			return quant.Forall(s, a, mask)
		}, func(f api.Func, mask, _ uint8) api.Func { return truth.Forall(f, mask) }},
		{"Restrict", quant.Restrict, truth.Restrict},
	}
}

// great are handles that no store gives out: from 2^28 on, those among them of which the lowest 28 bits are a constant's or a node's.
var great = []api.Handle{1 << 28, 1<<28 + 1, 1<<28 + 2, 1<<28 + 3, 1 << 29, 1<<31 - 1, 1 << 31, 1<<31 + 2, math.MaxUint32 - 1, math.MaxUint32}

// someVals are vals with all bits alike, and with some of each.
var someVals = []uint8{0, 255, 0x55, 0xaa, 0x36}

// all is the mask of so many variables.
func all(vars int) uint8 { return uint8(1<<vars - 1) }

// store makes a store.
func store(t *testing.T, vars, room int) *nodes.Store {
	t.Helper()
	s, err := nodes.New(vars, room)
	if err != api.OK {
		t.Fatalf("New(%d, %d): %v", vars, room, err)
	}
	return s
}

// triple is what an inner node is made of.
type triple struct {
	level     int
	low, high api.Handle
}

// held is all inner nodes of s.
func held(s *nodes.Store) map[api.Handle]triple {
	m := map[api.Handle]triple{}
	for _, h := range s.All() {
		m[h] = triple{s.Level(h), s.Low(h), s.High(h)}
	}
	return m
}

// function is the table of the node's function, by walks down to a constant at all assignments.
func function(s *nodes.Store, h api.Handle) api.Func {
	o := s.Order()
	var f api.Func
	for x := range 256 {
		at := h
		for at > 1 {
			if x>>o.Var(s.Level(at))&1 == 1 {
				at = s.High(at)
			} else {
				at = s.Low(at)
			}
		}
		f[x/64] |= uint64(at) << (x % 64)
	}
	return f
}

// lay makes the node of f by Mk alone, the nodes of f and no others; false, if there is no room.
func lay(s *nodes.Store, f api.Func) (api.Handle, bool) {
	var down func(f api.Func, level int) api.Handle
	ok := true
	down = func(f api.Func, level int) api.Handle {
		if level == s.Vars() {
			return api.Handle(f[0] & 1)
		}
		v := s.Order().Var(level)
		h, err := s.Mk(level, down(truth.Fix(f, v, false), level+1), down(truth.Fix(f, v, true), level+1))
		ok = ok && err == api.OK
		return h
	}
	h := down(f, 0)
	return h, ok
}

// laid is lay where there is room.
func laid(t *testing.T, s *nodes.Store, f api.Func) api.Handle {
	t.Helper()
	h, ok := lay(s, f)
	if !ok {
		t.Fatalf("no room for %x", f)
	}
	return h
}

// stays fails unless all nodes that were there are there, and the same.
func stays(t *testing.T, s *nodes.Store, name string, was map[api.Handle]triple) {
	t.Helper()
	now := held(s)
	for h, k := range was {
		if now[h] != k {
			t.Fatalf("%s: node %d was %v, is %v", name, h, k, now[h])
		}
	}
	if s.Len() != len(now) || s.Len() > s.Room() {
		t.Fatalf("%s: Len %d of %d nodes in room for %d", name, s.Len(), len(now), s.Room())
	}
}

// call makes a call on a node and fails unless it answers the node of what it means, also when it is made again, or ErrFull with the store full then; what was there stays. It tells the answer, and whether there was one.
func call(t *testing.T, s *nodes.Store, o op, a api.Handle, mask, vals uint8) (api.Handle, bool) {
	t.Helper()
	was, want := held(s), o.means(function(s, a), mask, vals)
	h, err := o.do(s, a, mask, vals)
	stays(t, s, o.name, was)
	if err == api.ErrFull {
		if h != 0 || s.Len() != s.Room() {
			t.Fatalf("%s(%d, %x, %x): %d beside ErrFull, %d nodes in room for %d", o.name, a, mask, vals, h, s.Len(), s.Room())
		}
		return 0, false
	}
	if err != api.OK || !s.Is(h) || function(s, h) != want {
		t.Fatalf("%s(%d, %x, %x): %d, %v: %x, want %x", o.name, a, mask, vals, h, err, function(s, h), want)
	}
	if again, err := o.do(s, a, mask, vals); again != h || err != api.OK {
		t.Fatalf("%s(%d, %x, %x) again: %d, %v, it was %d", o.name, a, mask, vals, again, err, h)
	}
	stays(t, s, o.name, was)
	return h, true
}

// told is call where there is room for whatever is made.
func told(t *testing.T, s *nodes.Store, o op, a api.Handle, mask, vals uint8) api.Handle {
	t.Helper()
	h, ok := call(t, s, o, a, mask, vals)
	if !ok {
		t.Fatalf("%s(%d, %x, %x): ErrFull, %d nodes", o.name, a, mask, vals, s.Len())
	}
	return h
}

// refuses fails unless the call answers that error, and leaves all as it was.
func refuses(t *testing.T, s *nodes.Store, o op, a api.Handle, mask, vals uint8, want api.Errno) {
	t.Helper()
	was := held(s)
	if h, err := o.do(s, a, mask, vals); h != 0 || err != want {
		t.Fatalf("%s(%d, %x, %x): %d, %v, want %v", o.name, a, mask, vals, h, err, want)
	}
	if !maps.Equal(held(s), was) {
		t.Fatalf("%s(%d, %x, %x): %v, it was %v", o.name, a, mask, vals, held(s), was)
	}
}

// spread is f's values at the assignments of the first so many variables, whatever the others are.
func spread(f api.Func, vars int) api.Func {
	return truth.Restrict(f, ^all(vars), 0)
}

// draw is a row of numbers without a pattern.
type draw uint64

func (d *draw) next(below int) int {
	*d = *d*6364136223846793005 + 1442695040888963407
	return int(uint64(*d) >> 33 % uint64(below))
}

// bits draws a mask or vals.
func (d *draw) bits() uint8 { return uint8(d.next(256)) }

// function draws a function of so many variables: true often or seldom, hanging on all variables or on some.
func (d *draw) function(vars int) api.Func {
	var f api.Func
	often := 1 + d.next(15)
	for x := range 1 << vars {
		if d.next(16) < often {
			f[x/64] |= 1 << (x % 64)
		}
	}
	f = spread(f, vars)
	if d.next(3) == 0 {
		f = truth.Restrict(f, d.bits(), d.bits())
	}
	return f
}

// P12.1: the chapter's example.
func TestExample(t *testing.T) {
	s := store(t, 1, 1)
	a, first := logic.Var(s, 0)
	h, err := quant.Exists(s, a, 1)
	if h != 1 || first != api.OK || err != api.OK {
		t.Errorf("Exists of a variable by itself: %d (%v, %v)", h, first, err)
	}
}

// P12.1: what isn't a node is refused, by ErrNode also where mask has a variable that isn't there, in a store that has room and in a full one.
func TestNoNode(t *testing.T) {
	for _, vars := range []int{1, 3, api.MaxVars} {
		for _, room := range []int{1, 50} {
			s := store(t, vars, room)
			laid(t, s, truth.Var(0))
			next := slices.Max(s.All()) + 1
			for _, n := range append([]api.Handle{next, next + 1, 1<<28 - 1}, great...) {
				for mask := range 256 {
					for _, o := range ops() {
						refuses(t, s, o, n, uint8(mask), uint8(mask*7), api.ErrNode)
					}
				}
			}
		}
	}
}

// P12.1: of an empty store the constants alone are nodes.
func TestNoNodeOfEmpty(t *testing.T) {
	s := store(t, 8, 1)
	for _, o := range ops() {
		for _, n := range append([]api.Handle{2, 3}, great...) {
			for _, mask := range []uint8{0, 1, 128, 255} {
				refuses(t, s, o, n, mask, 0, api.ErrNode)
				refuses(t, s, o, n, mask, mask, api.ErrNode)
			}
		}
	}
	if h, err := s.Mk(7, 0, 1); err != api.OK || !s.Is(h) {
		t.Fatalf("Mk(7, 0, 1): %d, %v", h, err)
	}
}

// P12.1: a mask that has a variable from Vars on, alone or among others, is refused, of constants and of nodes, in a store that has room and in a full one; all other masks are taken.
func TestNoVariable(t *testing.T) {
	for vars := 1; vars <= api.MaxVars; vars++ {
		for _, room := range []int{1, 50} {
			s := store(t, vars, room)
			for _, a := range []api.Handle{0, 1, laid(t, s, truth.Var(vars-1))} {
				for mask := range 256 {
					for i, o := range ops() {
						if vals := someVals[(mask+i)%5]; mask < 1<<vars {
							told(t, s, o, a, uint8(mask), vals)
						} else {
							refuses(t, s, o, a, uint8(mask), vals, api.ErrVar)
						}
					}
				}
			}
		}
	}
}

// P12.1: a variable that vals has, and mask hasn't, needn't be there.
func TestValsOfNoVariable(t *testing.T) {
	s := store(t, 2, 9)
	a := laid(t, s, truth.And(truth.Var(0), truth.Var(1)))
	for vals := range 256 {
		told(t, s, ops()[2], a, 0, uint8(vals))
		told(t, s, ops()[2], a, 2, uint8(vals))
		refuses(t, s, ops()[2], a, 4, uint8(vals), api.ErrVar)
	}
}

// P12.1: of a constant it is that constant, by every mask, and nothing is made.
func TestConstants(t *testing.T) {
	for vars := 1; vars <= api.MaxVars; vars++ {
		s := store(t, vars, 1)
		for mask := range 1 << vars {
			for _, o := range ops() {
				for _, a := range []api.Handle{0, 1} {
					for _, vals := range someVals {
						if h := told(t, s, o, a, uint8(mask), vals); h != a || s.Len() != 0 {
							t.Fatalf("%s(%d, %x, %x): %d, Len %d", o.name, a, mask, vals, h, s.Len())
						}
					}
				}
			}
		}
	}
}

// P12.1: a variable's node, and its opposite's: by a mask that has the variable a constant, by others itself.
func TestVariables(t *testing.T) {
	for vars := 1; vars <= api.MaxVars; vars++ {
		s := store(t, vars, 2*vars)
		for v := range vars {
			is, isnt := laid(t, s, truth.Var(v)), laid(t, s, truth.Not(truth.Var(v)))
			for m := range 1 << vars {
				mask, on := uint8(m), uint8(1<<v)
				got := []api.Handle{
					told(t, s, ops()[0], is, mask, 0), told(t, s, ops()[0], isnt, mask, 0),
					told(t, s, ops()[1], is, mask, 0), told(t, s, ops()[1], isnt, mask, 0),
					told(t, s, ops()[2], is, mask, on), told(t, s, ops()[2], isnt, mask, on),
					told(t, s, ops()[2], is, mask, ^on), told(t, s, ops()[2], isnt, mask, ^on),
				}
				want := []api.Handle{is, isnt, is, isnt, is, isnt, is, isnt}
				if mask&on != 0 {
					want = []api.Handle{1, 1, 0, 0, 1, 0, 0, 1}
				}
				if !slices.Equal(got, want) {
					t.Fatalf("variable %d of %d by %x: %v, want %v", v, vars, mask, got, want)
				}
			}
		}
	}
}

// P12.1: by the empty mask a node is itself; by the mask of all variables it is a constant.
func TestNoneAndAll(t *testing.T) {
	for vars := 1; vars <= api.MaxVars; vars++ {
		d := draw(vars + 20)
		for range 20 {
			f := d.function(vars)
			s := store(t, vars, 200)
			a := laid(t, s, f)
			for i, o := range ops() {
				x := d.bits()
				if h := told(t, s, o, a, 0, x); h != a {
					t.Fatalf("%s(%d, 0, %x): %d", o.name, a, x, h)
				}
				want := []bool{f != truth.Const(false), f == truth.Const(true), truth.Eval(f, x)}[i]
				if h := told(t, s, o, a, all(vars), x); h > 1 || (h == 1) != want {
					t.Fatalf("%s(%d, all, %x): %d", o.name, a, x, h)
				}
			}
		}
	}
}

// P12.1: of up to three variables all functions, by all masks, to all values.
func TestAllOfThree(t *testing.T) {
	for vars := 1; vars <= 3; vars++ {
		functions := 1 << (1 << vars)
		s := store(t, vars, functions-2)
		handles := map[api.Func]api.Handle{}
		for n := range functions {
			f := spread(api.Func{uint64(n)}, vars)
			handles[f] = laid(t, s, f)
		}
		for f, a := range handles {
			for mask := range 1 << vars {
				for vals := range 1 << vars {
					for _, o := range ops() {
						want := handles[o.means(f, uint8(mask), uint8(vals))]
						if h, err := o.do(s, a, uint8(mask), uint8(vals)); h != want || err != api.OK {
							t.Fatalf("%s of %x by %x, %x: %d, %v, want %d", o.name, f[0], mask, vals, h, err, want)
						}
					}
				}
			}
		}
		if s.Len() != functions-2 {
			t.Errorf("%d nodes of %d functions", s.Len(), functions)
		}
	}
}

// P12.1: drawn functions of one to eight variables, by each variable alone, by all of them, by all but one and by drawn masks, with the cache and without, each call in a store of its own, so that no answer is there by another one.
func TestDrawn(t *testing.T) {
	for vars := 1; vars <= api.MaxVars; vars++ {
		d := draw(vars + 100)
		masks := []uint8{0, all(vars)}
		for v := range vars {
			masks = append(masks, 1<<v, all(vars)&^(1<<v), d.bits()&all(vars), d.bits()&all(vars))
		}
		for round := range 8 {
			f := d.function(vars)
			for _, mask := range masks {
				for _, o := range ops() {
					s := store(t, vars, 1000)
					s.Cached(round%2 == 0)
					told(t, s, o, laid(t, s, f), mask, d.bits())
				}
			}
		}
	}
}

// P12.1: all masks of eight variables in one store, and what was answered is asked about too.
func TestAllMasks(t *testing.T) {
	for _, cached := range []bool{true, false} {
		d := draw(8)
		s := store(t, 8, api.MaxSlots)
		s.Cached(cached)
		a := laid(t, s, d.function(8))
		for mask := range 256 {
			for _, o := range ops() {
				want := o.means(function(s, a), uint8(mask), uint8(mask*3))
				if h, err := o.do(s, a, uint8(mask), uint8(mask*3)); err != api.OK || function(s, h) != want {
					t.Fatalf("%s(%d, %x): %d, %v", o.name, a, mask, h, err)
				}
			}
		}
		known := append([]api.Handle{0, 1}, s.All()...)
		for range 100 {
			told(t, s, ops()[d.next(3)], known[d.next(len(known))], d.bits(), d.bits())
		}
	}
}

// P12.1: bits of vals outside the mask change nothing, bits within it do.
func TestValsOutside(t *testing.T) {
	d := draw(31)
	s := store(t, 6, 5000)
	unlike := 0
	for range 60 {
		a, mask, vals := laid(t, s, d.function(6)), d.bits()&63, d.bits()
		h := told(t, s, ops()[2], a, mask, vals)
		for _, other := range []uint8{vals & mask, vals | ^mask, vals ^ d.bits()&^mask} {
			if got := told(t, s, ops()[2], a, mask, other); got != h {
				t.Fatalf("Restrict(%d, %x, %x): %d, with %x %d", a, mask, other, got, vals, h)
			}
		}
		if told(t, s, ops()[2], a, mask, ^vals) != h {
			unlike++
		}
	}
	if unlike == 0 {
		t.Error("no vals change an answer")
	}
}

// P12.1: the variables of a mask at once, or one behind the other, in whatever turn; and what both values of one tell, or-ed and and-ed.
func TestByTurns(t *testing.T) {
	d := draw(12)
	s := store(t, 7, api.MaxSlots)
	for range 30 {
		a, mask, vals := laid(t, s, d.function(7)), d.bits()&127, d.bits()
		for _, o := range ops() {
			up, down := a, a
			for v := range 7 {
				up = told(t, s, o, up, mask&(1<<v), vals)
				down = told(t, s, o, down, mask&(64>>v), vals)
			}
			if h := told(t, s, o, a, mask, vals); up != h || down != h {
				t.Fatalf("%s(%d, %x, %x): %d, by turns %d, %d", o.name, a, mask, vals, h, up, down)
			}
		}
		one := uint8(1) << d.next(7)
		low, high := told(t, s, ops()[2], a, one, 0), told(t, s, ops()[2], a, one, one)
		or, first := logic.Or(s, low, high)
		and, second := logic.And(s, low, high)
		if first != api.OK || second != api.OK || told(t, s, ops()[0], a, one, 0) != or || told(t, s, ops()[1], a, one, 0) != and {
			t.Fatalf("%d by %x: halves %d, %d", a, one, low, high)
		}
	}
}

// opposite is logic's Not.
func opposite(t *testing.T, s *nodes.Store, h api.Handle) api.Handle {
	t.Helper()
	n, err := logic.Not(s, h)
	if err != api.OK {
		t.Fatalf("Not(%d): %v", h, err)
	}
	return n
}

// P12.2: Forall is not exists not, and Exists is not forall not: one handle.
func TestForallIsNotExistsNot(t *testing.T) {
	for vars := 1; vars <= api.MaxVars; vars++ {
		for round := range 6 {
			d := draw(10*vars + round)
			s := store(t, vars, api.MaxSlots)
			s.Cached(round%2 == 0)
			for _, a := range []api.Handle{0, 1, laid(t, s, truth.Var(vars-1)), laid(t, s, d.function(vars)), laid(t, s, d.function(vars))} {
				for _, mask := range []uint8{0, 1, all(vars), d.bits() & all(vars), d.bits() & all(vars)} {
					not := opposite(t, s, a)
					if h, other := told(t, s, ops()[1], a, mask, 0), opposite(t, s, told(t, s, ops()[0], not, mask, 0)); h != other {
						t.Fatalf("Forall(%d, %x): %d, not exists not %d", a, mask, h, other)
					}
					if h, other := told(t, s, ops()[0], a, mask, 0), opposite(t, s, told(t, s, ops()[1], not, mask, 0)); h != other {
						t.Fatalf("Exists(%d, %x): %d, not forall not %d", a, mask, h, other)
					}
				}
			}
		}
	}
}

// P12.1: in every room from a's own on: the right answer, or ErrFull with the store full then, and what was there stays; where there is room for more than is ever made, the answer.
func TestRoom(t *testing.T) {
	refused, answered := 0, 0
	for round := range 32 {
		vars := 1 + round%8
		first := []int{0, 1, 2, 3, 4, 5, 6, 7}[:vars]
		for _, o := range ops() {
			d := draw(round + 500)
			f, mask, vals := d.function(vars), d.bits()&all(vars), d.bits()
			have := truth.Size([]api.Func{f}, first)
			for room := max(have, 1); room <= have+30; room++ {
				s := store(t, vars, room)
				s.Cached(round/8%2 == 0)
				a := laid(t, s, f)
				_, ok := call(t, s, o, a, mask, vals)
				if ok {
					answered++
				} else {
					refused++
				}
				if function(s, a) != f {
					t.Fatalf("%s: the argument is another one", o.name)
				}
			}
			s := store(t, vars, api.MaxSlots)
			told(t, s, o, laid(t, s, f), mask, vals)
		}
	}
	if refused < 20 || answered < 100 {
		t.Errorf("%d calls refused, %d answered", refused, answered)
	}
}

// P12.1: a store without any room left refuses what would be new, answers what needs nothing new, and refuses what isn't a node or a variable as ever.
func TestFull(t *testing.T) {
	s := store(t, 3, 3)
	f := truth.Or(truth.And(truth.Var(0), truth.Var(1)), truth.And(truth.Not(truth.Var(0)), truth.Var(2)))
	a := laid(t, s, f)
	if s.Len() != s.Room() {
		t.Fatalf("%d nodes in room for %d", s.Len(), s.Room())
	}
	for range 2 {
		for i, want := range []api.Handle{s.Low(a), s.High(a)} {
			if h := told(t, s, ops()[2], a, 1, uint8(i)); h != want {
				t.Errorf("Restrict(%d, 1, %d): %d, want %d", a, i, h, want)
			}
		}
		for _, o := range ops()[:2] {
			refuses(t, s, o, a, 1, 0, api.ErrFull)
			refuses(t, s, o, a, 8, 0, api.ErrVar)
			refuses(t, s, o, 100, 8, 0, api.ErrNode)
		}
	}
}

// answer is what a call told.
type answer struct {
	h   api.Handle
	err api.Errno
}

// row makes drawn calls, some of which there is no room for; ahead of each the cache is switched as hold tells. What was answered, in order, and all nodes behind it.
func row(t *testing.T, hold func(s *nodes.Store, i int)) ([]answer, map[api.Handle]triple) {
	t.Helper()
	d := draw(17)
	s := store(t, 8, 240)
	known := []api.Handle{laid(t, s, d.function(8)), laid(t, s, d.function(8)), laid(t, s, d.function(8))}
	var answers []answer
	for i := range 90 {
		hold(s, i)
		h, err := ops()[i%3].do(s, known[d.next(len(known))], 1<<d.next(8)|1<<d.next(8), d.bits())
		if h > 1 {
			known = append(known, h)
		}
		answers = append(answers, answer{h, err})
	}
	return answers, held(s)
}

// P12.1, and DOC.md's rule 6: the same calls, the same handles, with the cache, without it, and switched in between.
func TestCached(t *testing.T) {
	first, all := row(t, func(*nodes.Store, int) {})
	refused, inner := 0, 0
	for _, a := range first {
		switch {
		case a.err == api.ErrFull:
			refused++
		case a.h > 1:
			inner++
		}
	}
	if refused < 10 || inner < 10 {
		t.Fatalf("%d calls refused, %d inner nodes told", refused, inner)
	}
	for way, hold := range []func(s *nodes.Store, i int){
		func(*nodes.Store, int) {},
		func(s *nodes.Store, i int) { s.Cached(false) },
		func(s *nodes.Store, i int) { s.Cached(i%2 == 0) },
		func(s *nodes.Store, i int) { s.Cached(i/7%2 == 1) },
	} {
		if got, nodes := row(t, hold); !slices.Equal(got, first) || !maps.Equal(nodes, all) {
			t.Errorf("way %d: other answers", way)
		}
	}
}

// DOC.md's rule 6: stores don't know of one another: of the same numbers each tells its own nodes, and makes them in itself.
func TestTwoStores(t *testing.T) {
	d := draw(5)
	s, o := store(t, 3, 60), store(t, 8, 3000)
	for range 4 {
		laid(t, s, d.function(3))
		laid(t, o, d.function(8))
	}
	for i := range 60 {
		all := append([]api.Handle{0, 1}, s.All()...)
		a, mask, vals, x := all[d.next(len(all))], d.bits()&7, d.bits(), ops()[i%3]
		others := held(o)
		told(t, s, x, a, mask, vals)
		if !maps.Equal(held(o), others) {
			t.Fatalf("%s changed another store", x.name)
		}
		others = held(s)
		told(t, o, x, a, mask, vals)
		if !maps.Equal(held(s), others) {
			t.Fatalf("%s changed another store", x.name)
		}
	}
	// A handle, or a variable, of the one is none of the other, if that one has no such.
	n := slices.Max(o.All())
	if s.Is(n) {
		t.Fatalf("%d is a node of both", n)
	}
	for _, x := range ops() {
		refuses(t, s, x, n, 1, 1, api.ErrNode)
		refuses(t, s, x, 1, 8, 8, api.ErrVar)
		told(t, o, x, n, 8, 8)
	}
}

// P12.1: a store of room for the most, with as many nodes as drawn functions need, and answers among them.
func TestGreatestStore(t *testing.T) {
	d := draw(3)
	s := store(t, api.MaxVars, api.MaxSlots)
	for i := range 60 {
		h := told(t, s, ops()[i%3], laid(t, s, d.function(8)), d.bits(), d.bits())
		told(t, s, ops()[(i+1)%3], h, d.bits(), d.bits())
	}
}
