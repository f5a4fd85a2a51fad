package task_test

import (
	"maps"
	"math"
	"slices"
	"testing"

	"spinney/api"
	"spinney/compose"
	"spinney/logic"
	"spinney/mark"
	"spinney/nodes"
	"spinney/quant"
	"spinney/rel"
	"spinney/swap"
	"spinney/task"
	"spinney/truth"
)

// steps is how many steps a machine may make.
const steps = 1 << 17

// ops are all operations.
var ops = []int{api.OpNot, api.OpAnd, api.OpOr, api.OpXor, api.OpIte, api.OpExists, api.OpForall, api.OpCompose, api.OpNext, api.OpPrev}

// great are handles that no store gives out: from 2^28 on, those among them of which the lowest 28 bits are a constant's or a node's.
var great = []api.Handle{1 << 28, 1<<28 + 1, 1<<28 + 2, 1<<28 + 3, 1 << 29, 1<<31 - 1, 1 << 31, 1<<31 + 2, math.MaxUint32 - 1, math.MaxUint32}

// store makes a store of that order.
func store(t *testing.T, order []int, room int) *nodes.Store {
	t.Helper()
	s, err := nodes.New(len(order), room)
	if err != api.OK {
		t.Fatalf("New(%d, %d): %v", len(order), room, err)
	}
	if _, err := swap.To(s, order); err != api.OK {
		t.Fatalf("To(%v): %v", order, err)
	}
	return s
}

// rising is the first order of so many variables.
func rising(vars int) []int {
	l := make([]int, vars)
	for v := range l {
		l[v] = v
	}
	return l
}

// falling is the first order the other way round.
func falling(vars int) []int {
	l := rising(vars)
	slices.Reverse(l)
	return l
}

// draw is a row of numbers without a pattern.
type draw uint64

func (d *draw) next(below int) int {
	*d = *d*6364136223846793005 + 1442695040888963407
	return int(uint64(*d) >> 33 % uint64(below))
}

// order draws an order of so many variables.
func (d *draw) order(vars int) []int {
	l := make([]int, vars)
	for i := range l {
		j := d.next(i + 1)
		l[i], l[j] = l[j], i
	}
	return l
}

// function draws a function of so many variables: true often or seldom, hanging on all of them or on some.
func (d *draw) function(vars int) api.Func {
	var f api.Func
	often := d.next(17)
	for x := range 1 << vars {
		if d.next(16) < often {
			f[x/64] |= 1 << (x % 64)
		}
	}
	f = truth.Restrict(f, uint8(255<<vars), 0)
	if d.next(3) == 0 {
		f = truth.Restrict(f, uint8(d.next(256)), uint8(d.next(256)))
	}
	return f
}

// dense draws a function that is true as often as not.
func (d *draw) dense(vars int) api.Func {
	var f api.Func
	for x := range 1 << vars {
		f[x/64] |= uint64(d.next(2)) << (x % 64)
	}
	return truth.Restrict(f, uint8(255<<vars), 0)
}

// asked is a job by functions.
type asked struct {
	op      int
	a, b, c api.Func
	mask    uint8
}

// job draws a job of that operation that isn't refused.
func (d *draw) job(op, vars int, function func(vars int) api.Func) asked {
	k := asked{op: op, a: function(vars), b: function(vars), c: function(vars), mask: uint8(d.next(1 << vars))}
	switch op {
	case api.OpCompose:
		k.mask = uint8(d.next(vars))
	case api.OpNext, api.OpPrev:
		k.a = truth.Restrict(k.a, 0xaa, uint8(d.next(256)))
	}
	return k
}

// fit tells the operations that a store of so many variables doesn't refuse.
func fit(vars int) []int {
	if vars%2 == 0 {
		return ops
	}
	return ops[:8]
}

// is is the function that the job is to tell.
func (k asked) is() api.Func {
	switch k.op {
	case api.OpNot:
		return truth.Not(k.a)
	case api.OpAnd:
		return truth.And(k.a, k.b)
	case api.OpOr:
		return truth.Or(k.a, k.b)
	case api.OpXor:
		return truth.Xor(k.a, k.b)
	case api.OpIte:
		return truth.Ite(k.a, k.b, k.c)
	case api.OpExists:
		return truth.Exists(k.a, k.mask)
	case api.OpForall:
		return truth.Forall(k.a, k.mask)
	case api.OpCompose:
		return truth.Compose(k.a, int(k.mask), k.b)
	case api.OpNext:
		return truth.Next(k.a, k.b)
	}
	return truth.Prev(k.a, k.b)
}

// told is what the layer tells that the operation is of.
func told(s *nodes.Store, j api.Job) (api.Handle, api.Errno) {
	switch j.Op {
	case api.OpNot:
		return logic.Not(s, j.A)
	case api.OpAnd:
		return logic.And(s, j.A, j.B)
	case api.OpOr:
		return logic.Or(s, j.A, j.B)
	case api.OpXor:
		return logic.Xor(s, j.A, j.B)
	case api.OpIte:
		return logic.Ite(s, j.A, j.B, j.C)
	case api.OpExists:
		return quant.Exists(s, j.A, j.Mask)
	case api.OpForall:
		return quant.Forall(s, j.A, j.Mask)
	case api.OpCompose:
		return compose.Compose(s, j.A, int(j.Mask), j.B)
	case api.OpNext:
		return rel.Next(s, j.A, j.B)
	}
	return rel.Prev(s, j.A, j.B)
}

// takesB tells whether the operation takes B.
func takesB(op int) bool { return op != api.OpNot && op != api.OpExists && op != api.OpForall }

// takesC tells whether the operation takes C.
func takesC(op int) bool { return op == api.OpIte }

// takesMask tells whether the operation takes Mask.
func takesMask(op int) bool { return op >= api.OpExists && op <= api.OpCompose }

// lay makes the nodes of f, from that level on.
func lay(t *testing.T, s *nodes.Store, f api.Func, level int) api.Handle {
	t.Helper()
	if level == s.Vars() {
		return api.Handle(f[0] & 1)
	}
	v := s.Order().Var(level)
	h, err := s.Mk(level, lay(t, s, truth.Fix(f, v, false), level+1), lay(t, s, truth.Fix(f, v, true), level+1))
	if err != api.OK {
		t.Fatalf("no room for %x: %v, %d nodes in room for %d", f, err, s.Len(), s.Room())
	}
	return h
}

// laid is the job of the nodes of what the operation takes; what it doesn't take is 0.
func (k asked) laid(t *testing.T, s *nodes.Store) api.Job {
	t.Helper()
	j := api.Job{Op: k.op, A: lay(t, s, k.a, 0)}
	if takesB(k.op) {
		j.B = lay(t, s, k.b, 0)
	}
	if takesC(k.op) {
		j.C = lay(t, s, k.c, 0)
	}
	if takesMask(k.op) {
		j.Mask = k.mask
	}
	return j
}

// triple is what an inner node is made of.
type triple struct {
	level     int
	low, high api.Handle
}

// of is what s tells of a handle.
func of(s *nodes.Store, h api.Handle) triple { return triple{s.Level(h), s.Low(h), s.High(h)} }

// held is all inner nodes of s.
func held(s *nodes.Store) map[api.Handle]triple {
	m := map[api.Handle]triple{}
	for _, h := range s.All() {
		m[h] = of(s, h)
	}
	return m
}

// unchanged fails unless s holds just those nodes, in that order.
func unchanged(t *testing.T, s *nodes.Store, was map[api.Handle]triple, order []int) {
	t.Helper()
	if s.Len() != len(was) || len(s.All()) != len(was) || !maps.Equal(held(s), was) || !slices.Equal(s.Order().All(), order) {
		t.Fatalf("order %v, %d nodes: %v, there were %v in order %v", s.Order().All(), s.Len(), held(s), was, order)
	}
}

// stay fails unless all nodes that were there are there still.
func stay(t *testing.T, s *nodes.Store, was map[api.Handle]triple) {
	t.Helper()
	for h, k := range was {
		if of(s, h) != k {
			t.Fatalf("node %d is %v, was %v", h, of(s, h), k)
		}
	}
}

// never is a handle above all nodes of s.
func never(s *nodes.Store) api.Handle { return slices.Max(append(s.All(), 1)) + 1 }

// function is the table of a node, by walks at all assignments.
func function(s *nodes.Store, h api.Handle) api.Func {
	var f api.Func
	o := s.Order()
	for x := range 256 {
		at := h
		for at > 1 {
			if x>>o.Var(s.Level(at))&1 == 1 {
				at = s.High(at)
			} else {
				at = s.Low(at)
			}
		}
		f[x/64] |= uint64(at) << (x % 64)
	}
	return f
}

// whole fails unless no two nodes of s are alike, none has low and high alike, and children are nodes that lie deeper.
func whole(t *testing.T, s *nodes.Store) {
	t.Helper()
	seen := map[triple]bool{}
	for h, k := range held(s) {
		if seen[k] || k.low == k.high || !s.Is(k.low) || !s.Is(k.high) || min(s.Level(k.low), s.Level(k.high)) <= k.level {
			t.Fatalf("node %d is %v", h, k)
		}
		seen[k] = true
	}
}

// machine makes the machine of the job, which New is to leave the store for as it is.
func machine(t *testing.T, s *nodes.Store, j api.Job) *task.Machine {
	t.Helper()
	n := s.Len()
	m, err := task.New(s, j)
	if m == nil || err != api.OK || s.Len() != n {
		t.Fatalf("New of %+v: %v, %d nodes, there were %d", j, err, s.Len(), n)
	}
	pending(t, m)
	return m
}

// pending fails unless the machine isn't done.
func pending(t *testing.T, m *task.Machine) {
	t.Helper()
	if h, err := m.Result(); m.Done() || h != 0 || err != api.ErrNone {
		t.Fatalf("done %v: %d, %v", m.Done(), h, err)
	}
}

// step takes a step of the machine, in which one node is made at most, and tells whether it's done.
func step(t *testing.T, s *nodes.Store, m *task.Machine) bool {
	t.Helper()
	n := s.Len()
	done := m.Step()
	if done != m.Done() || s.Len() < n || s.Len() > n+1 {
		t.Fatalf("Step: %v, Done: %v, %d nodes, there were %d", done, m.Done(), s.Len(), n)
	}
	if !done {
		pending(t, m)
	}
	return done
}

// ends takes steps of the machine up to its end, and tells how many.
func ends(t *testing.T, s *nodes.Store, m *task.Machine) int {
	t.Helper()
	for n := 1; n <= steps; n++ {
		if step(t, s, m) {
			return n
		}
	}
	t.Fatalf("it isn't done after %d steps", steps)
	return 0
}

// answers fails unless the machine is done and its result is that function's node, and is so still behind more steps.
func answers(t *testing.T, s *nodes.Store, m *task.Machine, want api.Func) api.Handle {
	t.Helper()
	h, err := m.Result()
	if !m.Done() || err != api.OK || !s.Is(h) || function(s, h) != want {
		t.Fatalf("done %v: %d, %v is %x, want %x", m.Done(), h, err, function(s, h), want)
	}
	for range 3 {
		n := s.Len()
		done := m.Step()
		if again, err := m.Result(); !done || !m.Done() || again != h || err != api.OK || s.Len() != n {
			t.Fatalf("behind the end: %v, %v, %d, %v, it was %d", done, m.Done(), again, err, h)
		}
	}
	return h
}

// works fails unless a machine, and Run, tell what the job is to tell, which is what its layer tells. It tells the node and how many steps it took.
func works(t *testing.T, s *nodes.Store, k asked) (api.Handle, int) {
	t.Helper()
	j, order := k.laid(t, s), s.Order().All()
	was := held(s)
	m := machine(t, s, j)
	n := ends(t, s, m)
	h := answers(t, s, m, k.is())
	stay(t, s, was)
	if same, err := task.Run(s, j); same != h || err != api.OK {
		t.Fatalf("Run of %+v: %d, %v, the machine told %d", j, same, err, h)
	}
	if same, err := told(s, j); same != h || err != api.OK {
		t.Fatalf("the layer tells %d, %v of %+v, the machine %d", same, err, j, h)
	}
	if !slices.Equal(s.Order().All(), order) {
		t.Fatalf("the order is %v, was %v", s.Order().All(), order)
	}
	return h, n
}

// P20.3: the chapter's example.
func TestExample(t *testing.T) {
	s := store(t, rising(1), 1)
	if h, err := task.Run(s, api.Job{Op: api.OpNot}); h != 1 || err != api.OK || s.Len() != 0 {
		t.Errorf("not 0: %d, %v", h, err)
	}
	if h, err := task.Run(s, api.Job{Op: api.OpNot, A: 1}); h != 0 || err != api.OK || s.Len() != 0 {
		t.Errorf("not 1: %d, %v", h, err)
	}
}

// refused fails unless New, and Run, refuse the job by that error and change nothing.
func refused(t *testing.T, s *nodes.Store, j api.Job, want api.Errno) {
	t.Helper()
	was, order := held(s), s.Order().All()
	if m, err := task.New(s, j); m != nil || err != want {
		t.Fatalf("New of %+v over %d variables: %v, want %v", j, s.Vars(), err, want)
	}
	if h, err := task.Run(s, j); h != 0 || err != want {
		t.Fatalf("Run of %+v over %d variables: %d, %v, want %v", j, s.Vars(), h, err, want)
	}
	unchanged(t, s, was, order)
}

// P20.1: each number that is no operation: ErrJob, whatever else is wrong, in each store.
func TestNoOperation(t *testing.T) {
	for vars := 1; vars <= api.MaxVars; vars++ {
		s := store(t, falling(vars), 10)
		a := lay(t, s, truth.Var(0), 0)
		for _, op := range []int{0, -1, 11, 12, 13, 100, 255, 256, 257, 1 << 16, 1<<16 + 1, 1<<32 + 1, 1<<32 + 10, math.MaxInt32, math.MaxInt, -2, -10, math.MinInt32, math.MinInt, math.MinInt + 1} {
			for _, j := range []api.Job{{}, {A: a, B: a, C: a}, {A: 99}, {A: a, B: 99, C: math.MaxUint32, Mask: 255}, {Mask: 255}} {
				j.Op = op
				refused(t, s, j, api.ErrJob)
			}
		}
	}
}

// P20.1: an argument that is no node, at each place that the operation takes: ErrNode, also where the mask, the variable, the states or the number of variables would be refused; at each other place it isn't looked at.
func TestNoNode(t *testing.T) {
	for vars := 1; vars <= api.MaxVars; vars++ {
		d := draw(vars)
		s := store(t, d.order(vars), 900)
		for _, op := range ops {
			k := d.job(op, vars, d.function)
			good, next := k.laid(t, s), lay(t, s, truth.Var(vars-1), 0)
			for i, h := range append([]api.Handle{0, 1, 1 << 15, 1<<28 - 1}, great...) {
				if i < 2 {
					h += never(s)
				}
				for _, mask := range []uint8{good.Mask, 255, uint8(vars)} {
					for _, a := range []api.Handle{good.A, next} {
						j := good
						j.Mask, j.A = mask, h
						refused(t, s, j, api.ErrNode)
						if j.A, j.B = a, h; takesB(op) {
							refused(t, s, j, api.ErrNode)
						}
						if j.B, j.C = good.B, h; takesC(op) {
							refused(t, s, j, api.ErrNode)
						}
						if j.A, j.B, j.C = h, h, h; true {
							refused(t, s, j, api.ErrNode)
						}
					}
				}
				if !slices.Contains(fit(vars), op) {
					continue
				}
				unlooked(t, s, k, good, h)
			}
		}
	}
}

// unlooked fails unless the job is answered where h, which is no node, stands at each place that it doesn't take.
func unlooked(t *testing.T, s *nodes.Store, k asked, j api.Job, h api.Handle) {
	t.Helper()
	if !takesB(j.Op) {
		j.B = h
	}
	if !takesC(j.Op) {
		j.C = h
	}
	if !takesMask(j.Op) {
		j.Mask = 255
	}
	m := machine(t, s, j)
	for done := false; !done; done = m.Step() {
		roots(t, s, m)
	}
	answers(t, s, m, k.is())
}

// roots is what the machine tells to be held: nodes, rising, and what is done with the list changes no later one.
func roots(t *testing.T, s *nodes.Store, m *task.Machine) []api.Handle {
	t.Helper()
	l := m.Roots()
	own := slices.Clone(l)
	for i, h := range l {
		if !s.Is(h) || i > 0 && h <= l[i-1] {
			t.Fatalf("root %d of %d is no node, or told twice", h, l)
		}
	}
	for i := range l[:cap(l)] {
		l[:cap(l)][i] = 1<<28 + 5
	}
	if again := m.Roots(); !slices.Equal(again, own) {
		t.Fatalf("Roots: %d, and then %d", own, again)
	}
	return own
}

// P20.1: what isn't a node any more is none: ErrNode; and where its handle is given to another node, that one is looked at.
func TestNoNodeAnyMore(t *testing.T) {
	s := store(t, []int{1, 0, 2}, 100)
	f := truth.And(truth.Var(0), truth.Or(truth.Var(1), truth.Var(2)))
	h := lay(t, s, f, 0)
	mark.Collect(s, nil)
	for _, op := range ops[:8] {
		refused(t, s, api.Job{Op: op, A: h}, api.ErrNode)
		if takesB(op) {
			refused(t, s, api.Job{Op: op, B: h}, api.ErrNode)
		}
	}
	refused(t, s, api.Job{Op: api.OpIte, C: h}, api.ErrNode)
	for v := range 3 {
		lay(t, s, truth.Not(truth.Var(v)), 0)
	}
	for _, h := range s.All() {
		want := truth.Not(function(s, h))
		m := machine(t, s, api.Job{Op: api.OpNot, A: h})
		ends(t, s, m)
		answers(t, s, m, want)
	}
}

// P20.1: each mask over one to eight variables: what has a variable that isn't there is ErrVar, of constants too; all others are answered.
func TestMasks(t *testing.T) {
	for vars := 1; vars <= api.MaxVars; vars++ {
		d := draw(vars)
		s := store(t, d.order(vars), 2000)
		f := d.function(vars)
		a := lay(t, s, f, 0)
		for mask := range 256 {
			for _, op := range []int{api.OpExists, api.OpForall} {
				for _, k := range []asked{{op: op, a: f, mask: uint8(mask)}, {op: op, mask: uint8(mask)}, {op: op, a: truth.Const(true), mask: uint8(mask)}} {
					if mask>>vars != 0 {
						refused(t, s, k.laid(t, s), api.ErrVar)
						continue
					}
					h, err := task.Run(s, k.laid(t, s))
					if err != api.OK || function(s, h) != k.is() {
						t.Fatalf("op %d of %d by %b over %d variables: %d, %v", op, a, mask, vars, h, err)
					}
				}
				mark.Collect(s, []api.Handle{a})
			}
		}
	}
}

// P20.1: each number of a variable over one to eight of them: from Vars on it is ErrVar, of constants too; all others are answered.
func TestVariables(t *testing.T) {
	for vars := 1; vars <= api.MaxVars; vars++ {
		d := draw(vars)
		s := store(t, d.order(vars), 2000)
		for v := range 256 {
			f, g := d.function(vars), d.function(vars)
			for _, k := range []asked{{a: f, b: g}, {a: f}, {b: g}, {a: truth.Const(true), b: g}, {a: f, b: truth.Const(true)}} {
				k.op, k.mask = api.OpCompose, uint8(v)
				if v >= vars {
					refused(t, s, k.laid(t, s), api.ErrVar)
					continue
				}
				works(t, s, k)
			}
			mark.Collect(s, nil)
		}
	}
}

// P20.1: states that hang on a next variable, and an odd number of variables, of whatever states and relation, the constants among them: ErrRel; a relation may hang on whatever there is.
func TestStates(t *testing.T) {
	for vars := 1; vars <= api.MaxVars; vars++ {
		for round := range 30 {
			d := draw(50*vars + round)
			s := store(t, d.order(vars), 900)
			s.Cached(round%2 == 0)
			k := asked{op: api.OpNext + round%2, a: d.function(vars), b: d.function(vars)}
			switch {
			case round%5 == 0:
				k.a, k.b = truth.Const(round%3 == 0), truth.Const(round%4 < 2)
			case round%5 < 3:
				k.a = truth.Restrict(k.a, 0xaa, uint8(d.next(256)))
			case round%5 == 3:
				k.a = truth.Xor(truth.Restrict(k.a, 0xaa, 0), truth.Var(d.next(vars)))
			}
			if vars%2 == 1 || truth.Support(k.a)&0xaa != 0 {
				refused(t, s, k.laid(t, s), api.ErrRel)
				continue
			}
			works(t, s, k)
		}
	}
}

// P20.1: New makes no node, and is refused for no lack of room, in a store that is full; a machine that makes none is done in it.
func TestNewInFullStore(t *testing.T) {
	for vars := 1; vars <= api.MaxVars; vars++ {
		s := store(t, falling(vars), 1)
		a := lay(t, s, truth.Var(0), 0)
		for _, op := range fit(vars) {
			for _, j := range []api.Job{{A: a}, {A: a, B: a, C: a}, {A: a, B: 1, C: a}, {A: 1, B: a}, {B: a, C: 1}} {
				j.Op = op
				machine(t, s, j)
			}
		}
		for _, op := range ops {
			refused(t, s, api.Job{Op: op, A: 3}, api.ErrNode)
		}
		for _, j := range []api.Job{{Op: api.OpAnd, A: a, B: a}, {Op: api.OpOr, A: a, B: 0}, {Op: api.OpXor, A: a, B: 0}, {Op: api.OpIte, A: a, B: 1, C: 0}, {Op: api.OpIte, A: 1, B: a}, {Op: api.OpExists, A: a}, {Op: api.OpForall, A: a}, {Op: api.OpCompose, A: a, B: a}} {
			if h, err := task.Run(s, j); h != a || err != api.OK {
				t.Errorf("%+v: %d, %v", j, h, err)
			}
		}
	}
}

// P20.2: a new machine isn't done, whatever its job, and tells ErrNone; of constants the first step, or one soon behind it, is the last.
func TestConstants(t *testing.T) {
	for vars := 1; vars <= api.MaxVars; vars++ {
		s := store(t, rising(vars), 1)
		for _, op := range fit(vars) {
			for x := range 8 {
				for mask := range min(1<<vars, vars+9) {
					k := asked{op: op, a: truth.Const(x&1 == 1), b: truth.Const(x&2 == 2), c: truth.Const(x&4 == 4), mask: uint8(mask)}
					if op == api.OpCompose {
						k.mask = uint8(mask % vars)
					}
					if _, n := works(t, s, k); n > 9 || s.Len() != 0 {
						t.Fatalf("op %d: %d steps, %d nodes", op, n, s.Len())
					}
				}
			}
		}
	}
}

// functions are all functions of so many variables.
func functions(vars int) []api.Func {
	var l []api.Func
	for bits := range uint64(1) << (1 << vars) {
		l = append(l, truth.Restrict(api.Func{bits}, uint8(255<<vars), 0))
	}
	return l
}

// each asks do for each job of that operation over these functions.
func each(op, vars int, l []api.Func, do func(k asked)) {
	one := []api.Func{{}}
	bs, cs, masks := one, one, 1
	if takesB(op) {
		bs = l
	}
	if takesC(op) {
		cs = l
	}
	if takesMask(op) {
		masks = 1 << vars
	}
	if op == api.OpCompose {
		masks = vars
	}
	for _, a := range l {
		if op >= api.OpNext && truth.Support(a)&0xaa != 0 {
			continue
		}
		for _, b := range bs {
			for _, c := range cs {
				for mask := range masks {
					do(asked{op: op, a: a, b: b, c: c, mask: uint8(mask)})
				}
			}
		}
	}
}

// P20.2: all functions of one variable, and of two under both orders, by each operation, with the cache on and off.
func TestAllOfTwo(t *testing.T) {
	for _, order := range [][]int{{0}, {0, 1}, {1, 0}} {
		vars := len(order)
		for _, op := range fit(vars) {
			s := store(t, order, 20)
			n := 0
			each(op, vars, functions(vars), func(k asked) {
				s.Cached(n%2 == 0)
				works(t, s, k)
				n++
			})
			if n < 1<<(1<<vars) && op < api.OpNext {
				t.Errorf("just %d jobs of op %d", n, op)
			}
		}
	}
}

// P20.2: drawn functions over one to eight variables under drawn orders, by each operation, with the cache on and off, in a store in which other nodes are.
func TestDrawn(t *testing.T) {
	for vars := 1; vars <= api.MaxVars; vars++ {
		for _, op := range fit(vars) {
			for round := range 14 {
				d := draw(1000*vars + 50*op + round)
				s := store(t, d.order(vars), 4000)
				s.Cached(round%2 == 0)
				lay(t, s, d.function(vars), 0)
				k := d.job(op, vars, d.function)
				works(t, s, k)
				works(t, s, d.job(op, vars, d.dense))
				works(t, s, k)
				whole(t, s)
			}
		}
	}
}

// P20.2: arguments that are one node, or each other's negation, or a constant and a node.
func TestAlike(t *testing.T) {
	for vars := 1; vars <= api.MaxVars; vars++ {
		d := draw(vars)
		s := store(t, d.order(vars), 6000)
		f := d.dense(vars)
		for op := api.OpNot; op <= api.OpCompose; op++ {
			l := []api.Func{f, truth.Not(f), truth.Const(false), truth.Const(true), truth.Var(vars - 1)}
			each(op, vars, l, func(k asked) {
				if !takesMask(op) || int(k.mask) == d.next(1<<vars) || op == api.OpCompose {
					works(t, s, k)
				}
				if s.Len() > 5000 {
					mark.Collect(s, nil)
				}
			})
		}
	}
}

// P20.2: the greatest arguments: dense functions of eight variables, and those of which no two ways down lead to one node sooner than they must: less than 2^17 steps.
func TestSteps(t *testing.T) {
	d := draw(5)
	parity := truth.Const(false)
	for v := range api.MaxVars {
		parity = truth.Xor(parity, truth.Var(v))
	}
	for _, order := range [][]int{rising(8), falling(8), d.order(8), d.order(8)} {
		s := store(t, order, api.MaxSlots)
		s.Cached(false)
		most := 0
		for _, op := range ops {
			for round := range 8 {
				k := d.job(op, 8, d.dense)
				if round%2 == 0 && op < api.OpNext {
					k.a = parity
				}
				if round%3 == 0 {
					k.b = parity
				}
				if takesMask(op) && op != api.OpCompose {
					k.mask = []uint8{255, 0x55, 0xaa, 0xf0, 0x0f, 1, 128, 127}[round]
				}
				_, n := works(t, s, k)
				most = max(most, n)
			}
		}
		if most > steps || most < 100 {
			t.Errorf("%d steps", most)
		}
	}
}

// P20.2: what is at hand is answered by the first step; and nobody goes down where the answer doesn't hang on what lies there.
func TestFewSteps(t *testing.T) {
	d := draw(8)
	f, g := d.dense(6), d.dense(6)
	zero, one, top, last := truth.Const(false), truth.Const(true), truth.Var(0), truth.Var(5)
	for i, e := range []struct {
		k    asked
		most int
	}{
		{asked{op: api.OpAnd, a: f, b: f}, 1},
		{asked{op: api.OpAnd, a: f, b: zero}, 1},
		{asked{op: api.OpAnd, a: f, b: one}, 1},
		{asked{op: api.OpAnd, a: zero, b: f}, 1},
		{asked{op: api.OpAnd, a: one, b: f}, 1},
		{asked{op: api.OpOr, a: f, b: f}, 1},
		{asked{op: api.OpOr, a: f, b: zero}, 1},
		{asked{op: api.OpOr, a: f, b: one}, 1},
		{asked{op: api.OpOr, a: zero, b: f}, 1},
		{asked{op: api.OpOr, a: one, b: f}, 1},
		{asked{op: api.OpXor, a: f, b: f}, 1},
		{asked{op: api.OpXor, a: f, b: zero}, 1},
		{asked{op: api.OpXor, a: zero, b: f}, 1},
		{asked{op: api.OpIte, a: zero, b: f, c: g}, 1},
		{asked{op: api.OpIte, a: one, b: f, c: g}, 1},
		{asked{op: api.OpIte, a: f, b: g, c: g}, 1},
		{asked{op: api.OpIte, a: f, b: one, c: zero}, 1},
		{asked{op: api.OpIte, a: f, b: f, c: zero}, 1},
		{asked{op: api.OpIte, a: f, b: one, c: f}, 1},
		{asked{op: api.OpExists, a: f}, 1},
		{asked{op: api.OpForall, a: last, mask: 31}, 1},
		{asked{op: api.OpCompose, a: top, b: zero}, 1},
		{asked{op: api.OpCompose, a: f, b: one, mask: 0}, 200},
		{asked{op: api.OpAnd, a: top, b: f}, 4},
		{asked{op: api.OpExists, a: f, mask: 1}, 200},
		{asked{op: api.OpCompose, a: last, b: f, mask: 3}, 4},
		{asked{op: api.OpPrev, a: truth.Var(4), b: one}, 15},
	} {
		s := store(t, rising(6), 1000)
		if _, n := works(t, s, e.k); n > e.most {
			t.Errorf("job %d: %d steps, at most %d are needed", i, n, e.most)
		}
	}
}

// fails fails unless the machine is done for lack of room.
func fails(t *testing.T, s *nodes.Store, m *task.Machine) {
	t.Helper()
	for range 3 {
		n := s.Len()
		if h, err := m.Result(); h != 0 || err != api.ErrFull || !m.Done() || s.Len() != s.Room() {
			t.Fatalf("done %v: %d, %v with %d nodes in room for %d", m.Done(), h, err, s.Len(), s.Room())
		}
		if l := roots(t, s, m); slices.Max(append(l, 0)) > 1 {
			t.Fatalf("Roots behind the end: %d", l)
		}
		if !m.Step() || s.Len() != n {
			t.Fatalf("it goes on")
		}
	}
}

// P20.2: with room for just the arguments, or for one, two .. nodes more, up to where it is answered: ErrFull just where the store is full at its last step; what was there stays; and behind a collection another machine tells the same, or is answered if that made room.
func TestJustRoom(t *testing.T) {
	full := map[int]int{}
	for vars := 1; vars <= api.MaxVars; vars++ {
		for _, op := range fit(vars) {
			d := draw(100*vars + op)
			k := d.job(op, vars, d.dense)
			order := d.order(vars)
			for more := 0; ; more += 1 + more/8 {
				least := store(t, order, api.MaxSlots)
				k.laid(t, least)
				s := store(t, order, max(1, least.Len()+more))
				s.Cached(more%2 == 0)
				j := k.laid(t, s)
				if lacks(t, s, k, j) {
					full[op]++
					continue
				}
				break
			}
		}
	}
	for _, op := range ops {
		if full[op] < 5 {
			t.Errorf("op %d lacked room just %d times", op, full[op])
		}
	}
}

// lacks works the job out, and tells whether there wasn't room.
func lacks(t *testing.T, s *nodes.Store, k asked, j api.Job) bool {
	t.Helper()
	was := held(s)
	m := machine(t, s, j)
	ends(t, s, m)
	stay(t, s, was)
	whole(t, s)
	if _, err := m.Result(); err == api.OK {
		answers(t, s, m, k.is())
		return false
	}
	fails(t, s, m)
	if h, err := task.Run(s, j); h != 0 || err != api.ErrFull {
		t.Fatalf("once more: %d, %v", h, err)
	}
	// What it made is in nobody's way.
	mark.Collect(s, []api.Handle{j.A, j.B, j.C})
	if !maps.Equal(held(s), was) {
		t.Fatalf("%d nodes are left, there were %d", s.Len(), len(was))
	}
	if h, err := task.Run(s, j); h != 0 || err != api.ErrFull {
		t.Fatalf("behind a collection: %d, %v", h, err)
	}
	return true
}

// P20.2: in a store that was full of others' nodes at the beginning, or became so on the way: ErrFull; behind a collection of these another machine is answered.
func TestFullOfOthers(t *testing.T) {
	full := 0
	for vars := 4; vars <= api.MaxVars; vars++ {
		for _, op := range fit(vars) {
			for round := range 6 {
				d := draw(30*vars + 3*op + round)
				k, order := d.job(op, vars, d.dense), d.order(vars)
				twin := store(t, order, 4000)
				task.Run(twin, k.laid(t, twin))
				s := store(t, order, twin.Len()+d.next(9))
				j := k.laid(t, s)
				m := machine(t, s, j)
				for n := range round / 2 * round {
					if n == 0 || !m.Done() {
						step(t, s, m)
					}
				}
				others(&d, s)
				if m.Done() || ends(t, s, m) > steps {
					continue
				}
				if h, err := m.Result(); err == api.OK {
					// All of its nodes were there by chance.
					if function(s, h) != k.is() {
						t.Fatalf("%x, want %x", function(s, h), k.is())
					}
					continue
				}
				full++
				fails(t, s, m)
				mark.Collect(s, append(m.Roots(), j.A, j.B, j.C))
				again := machine(t, s, j)
				ends(t, s, again)
				answers(t, s, again, k.is())
				if h, err := m.Result(); h != 0 || err != api.ErrFull {
					t.Fatalf("the first one tells %d, %v now", h, err)
				}
			}
		}
	}
	if full < 100 {
		t.Errorf("just %d lacked room", full)
	}
}

// others makes nodes without a plan until the store is full.
func others(d *draw, s *nodes.Store) {
	for tries := 0; s.Len() < s.Room() && tries < 40000; tries++ {
		known := append([]api.Handle{0, 1}, s.All()...)
		for range 20 {
			low, high := known[d.next(len(known))], known[d.next(len(known))]
			if top := min(s.Level(low), s.Level(high)); top > 0 {
				s.Mk(d.next(top), low, high)
			}
		}
	}
}

// P20.2, P20.3: in just the room that its layer needs, each operation of layer 11 is answered, too: no node is made that isn't the answer's.
func TestNoMoreThanNeeded(t *testing.T) {
	for vars := 1; vars <= api.MaxVars; vars++ {
		for op := api.OpNot; op <= api.OpIte; op++ {
			for round := range 6 {
				d := draw(60*vars + 7*op + round)
				k, order := d.job(op, vars, d.function), d.order(vars)
				twin := store(t, order, 2000)
				told(twin, k.laid(t, twin))
				s := store(t, order, max(1, twin.Len()))
				m := machine(t, s, k.laid(t, s))
				ends(t, s, m)
				answers(t, s, m, k.is())
				if s.Len() != twin.Len() {
					t.Fatalf("op %d: %d nodes, its layer's are %d", op, s.Len(), twin.Len())
				}
			}
		}
	}
}

// P20.3: what isn't reached from Roots is collected ahead of the first step, behind each step, and behind the end, by turns or at drawn moments, and other nodes are given the handles that went: the answer is the same, after as many steps; and behind the end just it is left.
func TestCollectedBetween(t *testing.T) {
	for vars := 1; vars <= api.MaxVars; vars++ {
		for _, op := range fit(vars) {
			for round := range 6 {
				d := draw(80*vars + 9*op + round)
				k, order := d.job(op, vars, []func(int) api.Func{d.function, d.dense}[round%2]), d.order(vars)
				twin := store(t, order, 4000)
				alone := ends(t, twin, machine(t, twin, k.laid(t, twin)))
				s := store(t, order, 4000)
				s.Cached(round%3 > 0)
				m := machine(t, s, k.laid(t, s))
				lay(t, s, d.function(vars), 0)
				went := 0
				for n, done := 0, false; !done; n++ {
					if round < 2 || n == round || d.next(round) == 0 {
						went += collects(t, s, m)
						stuff(&d, s)
					}
					if done = step(t, s, m); n > alone || done != (n+1 == alone) {
						t.Fatalf("op %d: done %v after %d steps, alone after %d", op, done, n+1, alone)
					}
				}
				h := answers(t, s, m, k.is())
				collects(t, s, m)
				if answers(t, s, m, k.is()) != h || s.Len() != truth.Size([]api.Func{k.is()}, order) {
					t.Fatalf("op %d: %d nodes are left", op, s.Len())
				}
				whole(t, s)
			}
		}
	}
}

// collects takes away what isn't reached from the machine's Roots, and tells how many went.
func collects(t *testing.T, s *nodes.Store, m *task.Machine) int {
	t.Helper()
	n, err := mark.Collect(s, roots(t, s, m))
	if err != api.OK {
		t.Fatalf("Collect: %v", err)
	}
	return n
}

// stuff makes a few nodes, which take handles that are free.
func stuff(d *draw, s *nodes.Store) {
	l := []api.Handle{0, 1}
	for range 6 {
		low, high := l[d.next(len(l))], l[d.next(len(l))]
		if top := min(s.Level(low), s.Level(high)); top > 0 {
			if h, err := s.Mk(d.next(top), low, high); err == api.OK {
				l = append(l, h)
			}
		}
	}
}

// P20.3: a collection at one moment alone, at each one there is.
func TestCollectedOnce(t *testing.T) {
	for _, op := range ops {
		for _, vars := range []int{2, 4, 6} {
			d := draw(20*vars + op)
			k, order := d.job(op, vars, d.dense), d.order(vars)
			twin := store(t, order, 900)
			alone := ends(t, twin, machine(t, twin, k.laid(t, twin)))
			for at := range alone + 1 {
				s := store(t, order, 900)
				m := machine(t, s, k.laid(t, s))
				for n := range alone {
					if n == at {
						collects(t, s, m)
						stuff(&d, s)
					}
					if done := step(t, s, m); done != (n+1 == alone) {
						t.Fatalf("op %d, collected ahead of step %d: done %v after %d steps, alone after %d", op, at, done, n+1, alone)
					}
				}
				if at == alone {
					collects(t, s, m)
				}
				answers(t, s, m, k.is())
			}
		}
	}
}

// P20.3: with a collection of its own whenever the store is full, a machine whose answer has room is done in less than it would need else.
func TestRoomByCollecting(t *testing.T) {
	less := 0
	for round := range 40 {
		d := draw(round)
		k, order := d.job(api.OpExists+round%2, 8, d.dense), d.order(8)
		k.mask = 1<<order[d.next(8)] | 1<<order[d.next(8)] | 1<<order[7]
		twin := store(t, order, 4000)
		j := k.laid(t, twin)
		least := twin.Len()
		ends(t, twin, machine(t, twin, j))
		if twin.Len() == least {
			continue
		}
		s := store(t, order, twin.Len()-1)
		m := machine(t, s, k.laid(t, s))
		for !m.Step() {
			if s.Len() == s.Room() {
				collects(t, s, m)
			}
		}
		if _, err := m.Result(); err == api.OK {
			answers(t, s, m, k.is())
			less++
			continue
		}
		fails(t, s, m)
	}
	if less < 20 {
		t.Errorf("just %d", less)
	}
}

// P20.3: Run tells the very handle that a machine stepped by hand tells, and leaves the same nodes, in twin stores.
func TestRunIsSteps(t *testing.T) {
	for vars := 1; vars <= api.MaxVars; vars++ {
		for _, op := range fit(vars) {
			for _, room := range []int{5000, 300, 120, 30} {
				d := draw(40*vars + op + room)
				k, order := d.job(op, vars, d.function), d.order(vars)
				if least := store(t, order, 5000); k.laid(t, least).Op == op && least.Len() > room {
					continue
				}
				s, twin := store(t, order, room), store(t, order, room)
				m := machine(t, s, k.laid(t, s))
				ends(t, s, m)
				h, err := m.Result()
				if same, again := task.Run(twin, k.laid(t, twin)); same != h || again != err {
					t.Fatalf("op %d: Run tells %d, %v, the machine %d, %v", op, same, again, h, err)
				}
				unchanged(t, s, held(twin), order)
			}
		}
	}
}

// turned is machines over one store, with what each is to tell.
type turned struct {
	machines []*task.Machine
	jobs     []asked
	alone    []int
	made     []int // steps
}

// together makes so many machines over s.
func together(t *testing.T, d *draw, s *nodes.Store, many int) turned {
	t.Helper()
	var r turned
	l := fit(s.Vars())
	for i := range many {
		k := d.job(l[d.next(len(l))], s.Vars(), d.function)
		if i > 0 && d.next(4) == 0 {
			k = r.jobs[d.next(i)] // the same once more
		}
		twin := store(t, s.Order().All(), api.MaxSlots)
		r.alone = append(r.alone, ends(t, twin, machine(t, twin, k.laid(t, twin))))
		r.jobs, r.machines, r.made = append(r.jobs, k), append(r.machines, machine(t, s, k.laid(t, s))), append(r.made, 0)
	}
	return r
}

// step takes a step of machine i, if it isn't done, which it is to be after as many as alone.
func (r turned) step(t *testing.T, s *nodes.Store, i int) {
	t.Helper()
	if r.machines[i].Done() {
		return
	}
	r.made[i]++
	if done := step(t, s, r.machines[i]); done != (r.made[i] == r.alone[i]) {
		t.Fatalf("machine %d, op %d: done %v after %d steps, alone after %d", i, r.jobs[i].op, done, r.made[i], r.alone[i])
	}
}

// left tells which machines aren't done.
func (r turned) left() []int {
	var l []int
	for i, m := range r.machines {
		if !m.Done() {
			l = append(l, i)
		}
	}
	return l
}

// collect takes away what no machine's Roots reach.
func (r turned) collect(t *testing.T, s *nodes.Store) {
	t.Helper()
	var l []api.Handle
	for _, m := range r.machines {
		l = append(l, roots(t, s, m)...)
	}
	if _, err := mark.Collect(s, l); err != api.OK {
		t.Fatalf("Collect: %v", err)
	}
}

// P20.4: machines in turns, in patterns of many kinds, with collections on the way and without: each tells what it tells alone, after as many steps.
func TestTurns(t *testing.T) {
	for vars := 1; vars <= api.MaxVars; vars++ {
		for round := range 12 {
			d := draw(70*vars + round)
			s := store(t, d.order(vars), 20000)
			s.Cached(round%2 == 0)
			r := together(t, &d, s, 2+round%3)
			for turn := 0; len(r.left()) > 0; turn++ {
				l := r.left()
				i := l[d.next(len(l))]
				switch round % 4 {
				case 0:
					i = turn % len(r.machines)
				case 1:
					i = l[len(l)-1]
				case 2:
					i = turn / 7 % len(r.machines)
				}
				r.step(t, s, i)
				if round%3 == 0 && d.next(5) == 0 {
					r.collect(t, s)
				}
				if round%5 == 0 && d.next(9) == 0 {
					s.Cached(d.next(2) == 0)
				}
			}
			for i, m := range r.machines {
				answers(t, s, m, r.jobs[i].is())
			}
			whole(t, s)
		}
	}
}

// P20.4: two machines, one of which makes so many steps, then the other all of its own, then the first the rest: at each number of steps.
func TestOneWithinAnother(t *testing.T) {
	for _, vars := range []int{2, 4} {
		for _, op := range ops {
			for _, other := range ops {
				d := draw(10*op + other + 1000*vars)
				k, o := d.job(op, vars, d.dense), d.job(other, vars, d.dense)
				order := d.order(vars)
				for at := 0; ; at++ {
					s := store(t, order, 400)
					m, n := machine(t, s, k.laid(t, s)), machine(t, s, o.laid(t, s))
					done := false
					for i := 0; i < at && !done; i++ {
						done = step(t, s, m)
					}
					ends(t, s, n)
					if !done {
						ends(t, s, m)
					}
					answers(t, s, m, k.is())
					answers(t, s, n, o.is())
					if done {
						break
					}
				}
			}
		}
	}
}

// P20.4: many machines, some of which are left in the middle, and never go on: they harm nobody.
func TestMany(t *testing.T) {
	for round := range 4 {
		d := draw(round)
		s := store(t, d.order(6), 20000)
		r := together(t, &d, s, 64)
		for range 300 {
			r.step(t, s, d.next(64))
		}
		for i := range 64 {
			for i%4 > 0 && !r.machines[i].Done() {
				r.step(t, s, i)
			}
			if d.next(8) == 0 {
				r.collect(t, s)
			}
		}
		middle := 0
		for i, m := range r.machines {
			if m.Done() {
				answers(t, s, m, r.jobs[i].is())
				continue
			}
			pending(t, m)
			middle++
		}
		if middle == 0 {
			t.Error("all of them are done")
		}
		works(t, s, d.job(api.OpAnd, 6, d.dense))
		// And they could go on still.
		for _, i := range r.left() {
			for !r.machines[i].Done() {
				r.step(t, s, i)
			}
			answers(t, s, r.machines[i], r.jobs[i].is())
		}
	}
}

// P20.4: one that lacks room is done, and those that need none, or to which a collection gives room, aren't touched by that.
func TestTurnsInFullStore(t *testing.T) {
	full, ok := 0, 0
	for round := range 60 {
		d := draw(round)
		vars := 4 + 2*(round%3)
		order := d.order(vars)
		var jobs []asked
		least := store(t, order, 4000)
		for range 3 {
			k := d.job(ops[d.next(len(ops))], vars, d.dense)
			k.laid(t, least)
			jobs = append(jobs, k)
		}
		s := store(t, order, least.Len()+1+d.next(10*vars))
		var machines []*task.Machine
		for _, k := range jobs {
			machines = append(machines, machine(t, s, k.laid(t, s)))
		}
		for left := len(machines); left > 0; {
			m := machines[d.next(len(machines))]
			if m.Done() {
				continue
			}
			if !step(t, s, m) {
				continue
			}
			left--
			if _, err := m.Result(); err != api.OK {
				fails(t, s, m)
				full++
				continue
			}
			ok++
		}
		for i, m := range machines {
			if h, err := m.Result(); err == api.OK && function(s, h) != jobs[i].is() {
				t.Fatalf("%x, want %x", function(s, h), jobs[i].is())
			}
		}
		whole(t, s)
	}
	if full < 10 || ok < 10 {
		t.Errorf("%d lacked room, %d didn't", full, ok)
	}
}

// DOC.md's rule 6: machines over stores of their own don't know of one another.
func TestTwoStores(t *testing.T) {
	d := draw(4)
	for range 20 {
		s, o := store(t, rising(6), 4000), store(t, falling(6), 4000)
		k, l := d.job(ops[d.next(10)], 6, d.dense), d.job(ops[d.next(10)], 6, d.dense)
		m, n := machine(t, s, k.laid(t, s)), machine(t, o, l.laid(t, o))
		for !m.Done() || !n.Done() {
			was, its := s.Len(), o.Len()
			if d.next(2) == 0 {
				m.Step()
				its -= o.Len()
			} else {
				n.Step()
				its -= s.Len() + its - was
			}
			if its != 0 {
				t.Fatalf("the other store has %d and %d nodes", s.Len(), o.Len())
			}
		}
		answers(t, s, m, k.is())
		answers(t, o, n, l.is())
		if j := l.laid(t, s); s.Len() > 0 && j.Op == l.op {
			works(t, s, l)
		}
	}
}

// DOC.md's rule 6: the same steps, the same nodes behind each of them, and the same Roots.
func TestSameAgain(t *testing.T) {
	for _, op := range ops {
		d := draw(op)
		k, order := d.job(op, 6, d.dense), d.order(6)
		s, twin := store(t, order, 900), store(t, order, 900)
		m, n := machine(t, s, k.laid(t, s)), machine(t, twin, k.laid(t, twin))
		for done := false; !done; {
			if !slices.Equal(m.Roots(), n.Roots()) {
				t.Fatalf("op %d: Roots are %d and %d", op, m.Roots(), n.Roots())
			}
			if done = m.Step(); n.Step() != done || !slices.Equal(s.All(), twin.All()) {
				t.Fatalf("op %d: %d and %d nodes", op, s.Len(), twin.Len())
			}
		}
		h, err := m.Result()
		if same, again := n.Result(); same != h || again != err {
			t.Fatalf("op %d: %d, %v and %d, %v", op, h, err, same, again)
		}
	}
}

// P20.2: levels may be exchanged ahead of a machine's first step: it has done nothing yet, and hangs on no order.
func TestSwappedAhead(t *testing.T) {
	for vars := 2; vars <= api.MaxVars; vars++ {
		for _, op := range fit(vars) {
			d := draw(30*vars + op)
			s := store(t, d.order(vars), 4000)
			k := d.job(op, vars, d.dense)
			m := machine(t, s, k.laid(t, s))
			if _, err := swap.To(s, d.order(vars)); err != api.OK {
				t.Fatalf("To: %v", err)
			}
			ends(t, s, m)
			answers(t, s, m, k.is())
		}
	}
}

// Where an argument is collected ahead of the first step, or what a machine still needs on the way, though Roots told it, it ends by ErrNode at the next step: no answer is told that isn't one.
func TestGone(t *testing.T) {
	for _, op := range ops {
		for _, at := range []int{0, 0, 0, 1, 5, 20} {
			d := draw(40*op + at)
			s := store(t, d.order(6), 4000)
			k := d.job(op, 6, d.dense)
			j := k.laid(t, s)
			for i, keep := range [][]api.Handle{{}, {j.B, j.C}, {j.A, j.C}, {j.A, j.B}} {
				if j = k.laid(t, s); i == 2 && !takesB(op) || i == 3 && !takesC(op) || at > 0 && i > 0 {
					continue
				}
				m := machine(t, s, j)
				for range at {
					step(t, s, m)
				}
				mark.Collect(s, keep)
				if h, err := m.Result(); !m.Step() || h != 0 || err != api.ErrNone {
					t.Fatalf("op %d: done %v, it was %d, %v", op, m.Done(), h, err)
				}
				if h, err := m.Result(); h != 0 || err != api.ErrNode || slices.Max(append(m.Roots(), 0)) > 1 {
					t.Fatalf("op %d: %d, %v", op, h, err)
				}
			}
		}
	}
}

// DOC.md's rule 1: where more is collected than may be, or levels are exchanged, at whatever step, no call panics, and the machine ends; nodes are as they are to be.
func TestNothingLeft(t *testing.T) {
	for vars := 1; vars <= api.MaxVars; vars++ {
		for _, op := range fit(vars) {
			for at := range 60 {
				d := draw(70*vars + 61*op + at)
				s := store(t, d.order(vars), 4000)
				m := machine(t, s, d.job(op, vars, d.dense).laid(t, s))
				for range at {
					m.Step()
				}
				switch at % 3 {
				case 0:
					mark.Collect(s, nil)
				case 1:
					mark.Collect(s, nil)
					stuff(&d, s)
				default:
					swap.To(s, d.order(vars))
				}
				m.Roots()
				ends(t, s, m)
				if h, err := m.Result(); err != api.OK && h != 0 || err == api.ErrNone {
					t.Fatalf("op %d: %d, %v", op, h, err)
				}
				m.Roots()
				whole(t, s)
			}
		}
	}
}
