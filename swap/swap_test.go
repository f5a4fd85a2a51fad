package swap_test

import (
	"maps"
	"math"
	"slices"
	"testing"

	"spinney/api"
	"spinney/logic"
	"spinney/mark"
	"spinney/nodes"
	"spinney/swap"
	"spinney/truth"
)

// none are numbers that are no level in a store of so many variables.
func none(vars int) []int {
	return []int{-1, -2, -8, -256, -1 << 32, math.MinInt32, math.MinInt + 1, math.MinInt, vars, vars + 1, 2 * vars, vars + 256, vars - 1 + 1<<32, 1 << 32, 1<<32 + 1, math.MaxInt32, math.MaxInt - 1, math.MaxInt}
}

// store makes a store.
func store(t *testing.T, vars, room int) *nodes.Store {
	t.Helper()
	s, err := nodes.New(vars, room)
	if err != api.OK {
		t.Fatalf("New(%d, %d): %v", vars, room, err)
	}
	return s
}

// triple is what an inner node is made of.
type triple struct {
	level     int
	low, high api.Handle
}

// of is what s tells of a handle.
func of(s *nodes.Store, h api.Handle) triple { return triple{s.Level(h), s.Low(h), s.High(h)} }

// held is all inner nodes of s.
func held(s *nodes.Store) map[api.Handle]triple {
	m := map[api.Handle]triple{}
	for _, h := range s.All() {
		m[h] = of(s, h)
	}
	return m
}

// mk makes a node.
func mk(t *testing.T, s *nodes.Store, level int, low, high api.Handle) api.Handle {
	t.Helper()
	h, err := s.Mk(level, low, high)
	if err != api.OK {
		t.Fatalf("Mk(%d, %d, %d): %v, %d nodes in room for %d", level, low, high, err, s.Len(), s.Room())
	}
	return h
}

// function is the table of a node, by walks at all assignments.
func function(s *nodes.Store, h api.Handle) api.Func {
	var f api.Func
	o := s.Order()
	for x := range 256 {
		at := h
		for at > 1 {
			if x>>o.Var(s.Level(at))&1 == 1 {
				at = s.High(at)
			} else {
				at = s.Low(at)
			}
		}
		f[x/64] |= uint64(at) << (x % 64)
	}
	return f
}

// functions are the tables of all nodes of s, joined from the constants up.
func functions(s *nodes.Store) map[api.Handle]api.Func {
	m := map[api.Handle]api.Func{0: truth.Const(false), 1: truth.Const(true)}
	o := s.Order()
	var of func(h api.Handle) api.Func
	of = func(h api.Handle) api.Func {
		if _, there := m[h]; !there {
			m[h] = truth.Ite(truth.Var(o.Var(s.Level(h))), of(s.High(h)), of(s.Low(h)))
		}
		return m[h]
	}
	for _, h := range s.All() {
		of(h)
	}
	return m
}

// draw is a row of numbers without a pattern.
type draw uint64

func (d *draw) next(below int) int {
	*d = *d*6364136223846793005 + 1442695040888963407
	return int(uint64(*d) >> 33 % uint64(below))
}

// order draws an order of so many variables.
func (d *draw) order(vars int) []int {
	l := make([]int, vars)
	for i := range l {
		j := d.next(i + 1)
		l[i], l[j] = l[j], i
	}
	return l
}

// function draws a function of so many variables: true often or seldom, hanging on all of them or on some.
func (d *draw) function(vars int) api.Func {
	var f api.Func
	often := d.next(17)
	for x := range 1 << vars {
		if d.next(16) < often {
			f[x/64] |= 1 << (x % 64)
		}
	}
	f = truth.Restrict(f, uint8(255<<vars), 0)
	if d.next(3) == 0 {
		f = truth.Restrict(f, uint8(d.next(256)), uint8(d.next(256)))
	}
	return f
}

// functions draws so many of them.
func (d *draw) functions(vars, many int) []api.Func {
	var l []api.Func
	for range many {
		l = append(l, d.function(vars))
	}
	return l
}

// laid makes the nodes of each of l.
func laid(t *testing.T, s *nodes.Store, l []api.Func) []api.Handle {
	t.Helper()
	var handles []api.Handle
	for _, f := range l {
		handles = append(handles, lay(t, s, f, 0))
	}
	return handles
}

// alike makes a store that was told the same as each other one of these arguments, but for the room: the functions of l, laid one behind the other. It tells their handles.
func alike(t *testing.T, vars, room int, l []api.Func) (*nodes.Store, []api.Handle) {
	t.Helper()
	s := store(t, vars, room)
	return s, laid(t, s, l)
}

// size is how many nodes a store has in which the functions of l are laid one behind the other.
func size(vars int, l []api.Func) int {
	o := make([]int, vars)
	for v := range o {
		o[v] = v
	}
	return truth.Size(l, o)
}

// changed is an order whose level and the next one have changed their variables.
func changed(order []int, level int) []int {
	l := slices.Clone(order)
	l[level], l[level+1] = l[level+1], l[level]
	return l
}

// whole fails unless no two nodes of s are alike, by level, low and high or by function, none has low and high alike, all children are nodes that lie deeper, handles are such as a store gives, and the constants are what they are always. Nothing is asked for by Mk.
func whole(t *testing.T, s *nodes.Store) {
	t.Helper()
	triples, funcs := map[triple]api.Handle{}, map[api.Func]api.Handle{}
	for h, f := range functions(s) {
		if other, there := funcs[f]; there {
			t.Fatalf("nodes %d and %d are one function", other, h)
		}
		funcs[f] = h
	}
	l := s.All()
	for _, h := range l {
		k := of(s, h)
		if other, there := triples[k]; there || k.low == k.high {
			t.Fatalf("node %d is %v, and so is %d", h, k, other)
		}
		triples[k] = h
		if k.level < 0 || k.level >= s.Vars() || !s.Is(h) || !s.Is(k.low) || !s.Is(k.high) || min(s.Level(k.low), s.Level(k.high)) <= k.level || h < 2 || h >= 1<<28 {
			t.Fatalf("node %d is %v, on children of levels %d and %d", h, k, s.Level(k.low), s.Level(k.high))
		}
	}
	if s.Len() != len(l) || s.Len() > s.Room() || !slices.IsSorted(l) || len(slices.Compact(l)) != s.Len() {
		t.Fatalf("Len %d, All %d, room for %d", s.Len(), l, s.Room())
	}
	for _, h := range []api.Handle{0, 1} {
		if !s.Is(h) || of(s, h) != (triple{s.Vars(), h, h}) {
			t.Fatalf("the constant %d: %v", h, of(s, h))
		}
	}
}

// once fails unless Mk of each node of s tells its handle, which makes none.
func once(t *testing.T, s *nodes.Store) {
	t.Helper()
	was := held(s)
	for h, k := range was {
		if got := mk(t, s, k.level, k.low, k.high); got != h {
			t.Fatalf("Mk%v: %d, but it is %d", k, got, h)
		}
	}
	unchanged(t, s, was, s.Order().All())
}

// unchanged fails unless s holds just those nodes, in that order.
func unchanged(t *testing.T, s *nodes.Store, was map[api.Handle]triple, order []int) {
	t.Helper()
	if s.Len() != len(was) || len(s.All()) != len(was) || !maps.Equal(held(s), was) || !slices.Equal(s.Order().All(), order) {
		t.Fatalf("order %v, %d nodes: %v, there were %v in order %v", s.Order().All(), s.Len(), held(s), was, order)
	}
}

// stay fails unless each handle of funcs is a node of that function.
func stay(t *testing.T, s *nodes.Store, funcs map[api.Handle]api.Func) {
	t.Helper()
	now := functions(s)
	for h, f := range funcs {
		if now[h] != f || !s.Is(h) {
			t.Fatalf("order %v: node %d is %x, was %x", s.Order().All(), h, now[h], f)
		}
	}
}

// needs is what Needs is to tell: it fails unless it does, and leaves the store as it was.
func needs(t *testing.T, s *nodes.Store, level int) int {
	t.Helper()
	was, order, want := held(s), s.Order().All(), 0
	for _, k := range was {
		if k.level == level {
			want += 2
		}
	}
	if n := swap.Needs(s, level); n != want {
		t.Fatalf("Needs(%d): %d, want %d", level, n, want)
	}
	unchanged(t, s, was, order)
	return want
}

// swaps fails unless Swap answers what it is to answer, and does what it is to do, or nothing beside an error. It tells the error.
func swaps(t *testing.T, s *nodes.Store, level int) api.Errno {
	t.Helper()
	order, was, funcs := s.Order().All(), held(s), functions(s)
	vars, room, need := s.Vars(), s.Room(), needs(t, s, level)
	want := api.OK
	switch {
	case level < 0 || level >= vars-1:
		want = api.ErrVar
	case need > room-len(was):
		want = api.ErrFull
	}
	if err := swap.Swap(s, level); err != want {
		t.Fatalf("Swap(%d) of %d nodes in room for %d, order %v: %v, want %v", level, len(was), room, order, err, want)
	}
	if want != api.OK {
		unchanged(t, s, was, order)
		return want
	}
	if s.Vars() != vars || s.Room() != room || !slices.Equal(s.Order().All(), changed(order, level)) {
		t.Fatalf("a store of %d variables and room for %d, in order %v, was %v at %d", s.Vars(), s.Room(), s.Order().All(), order, level)
	}
	if s.Len() > len(was)+need {
		t.Fatalf("%d nodes behind %d, Needs told %d", s.Len(), len(was), need)
	}
	stay(t, s, funcs)
	whole(t, s)
	return want
}

// P18.1: the chapter's example: Swap(0) twice, and the order is as it was; and so is each node, but for those that were made besides.
func TestExample(t *testing.T) {
	s := store(t, 3, 100)
	d := draw(1)
	laid(t, s, d.functions(3, 3))
	was := held(s)
	if first, second := swap.Swap(s, 0), swap.Swap(s, 0); first != api.OK || second != api.OK || !slices.Equal(s.Order().All(), []int{0, 1, 2}) {
		t.Fatalf("%v, %v: the order is %v", first, second, s.Order().All())
	}
	for h, k := range was {
		if of(s, h) != k {
			t.Errorf("node %d is %v, was %v", h, of(s, h), k)
		}
	}
}

// P18.1: by hand: nodes that hang on the upper level's variable alone, on the lower one's alone, on both, on neither, and one that isn't to be laid twice.
func TestSwapByHand(t *testing.T) {
	for _, cached := range []bool{true, false} {
		s := store(t, 4, 40)
		s.Cached(cached)
		deep := mk(t, s, 3, 0, 1)       // hangs on neither
		lower := mk(t, s, 2, 0, 1)      // variable 2
		on := mk(t, s, 2, deep, 1)      // variable 2, else 3
		upper := mk(t, s, 1, 0, 1)      // variable 1
		skips := mk(t, s, 1, deep, 1)   // variable 1, else 3
		both := mk(t, s, 1, 0, lower)   // variables 1 and 2
		other := mk(t, s, 1, lower, on) // 2, else 1 and 3
		above := mk(t, s, 0, both, skips)
		if e := swaps(t, s, 1); e != api.OK {
			t.Fatal(e)
		}
		for h, k := range map[api.Handle]triple{
			deep:  {3, 0, 1},
			lower: {1, 0, 1},
			on:    {1, deep, 1},
			upper: {2, 0, 1},
			skips: {2, deep, 1},
			both:  {1, 0, upper},
			above: {0, both, skips},
		} {
			if of(s, h) != k {
				t.Errorf("node %d is %v, want %v", h, of(s, h), k)
			}
		}
		// Where 2 isn't, it is 1 and 3, which nobody asked for: one node is made, and no other one.
		half := s.Low(other)
		if of(s, other) != (triple{1, half, 1}) || of(s, half) != (triple{2, 0, deep}) || s.Len() != 9 {
			t.Errorf("%v, below it %v, %d nodes", of(s, other), of(s, half), s.Len())
		}
		once(t, s)
	}
}

// P18.1: a half of a node that hangs on both variables may be there, as one that moved, or as another one's half: they are one node then.
func TestHalvesAreShared(t *testing.T) {
	s := store(t, 3, 20)
	a, not := mk(t, s, 1, 0, 1), mk(t, s, 1, 1, 0)
	xor, iff := mk(t, s, 0, a, not), mk(t, s, 0, not, a)
	if e := swaps(t, s, 0); e != api.OK || s.Len() != 6 {
		t.Fatalf("%v, %d nodes, want 6", e, s.Len())
	}
	if s.Low(xor) != s.High(iff) || s.High(xor) != s.Low(iff) || s.Low(xor) == s.Low(iff) {
		t.Errorf("%v and %v share no halves", of(s, xor), of(s, iff))
	}
	if e := swaps(t, s, 0); e != api.OK || s.Len() != 6 {
		t.Fatalf("%v, %d nodes, want 6", e, s.Len())
	}
	if of(s, xor) != (triple{0, a, not}) || of(s, iff) != (triple{0, not, a}) {
		t.Errorf("%v and %v", of(s, xor), of(s, iff))
	}
}

// P18.1: Needs of each level, of one without nodes, and of what is no level; Swap of what is no level, or has none below: ErrVar, and nothing is changed, though there were room or weren't.
func TestNoLevel(t *testing.T) {
	for vars := 1; vars <= api.MaxVars; vars++ {
		d := draw(vars)
		l := d.functions(vars, 3)
		for _, room := range []int{max(size(vars, l), 1), api.MaxSlots} {
			for _, fs := range [][]api.Func{nil, l} {
				s, _ := alike(t, vars, room, fs)
				for level := range vars {
					needs(t, s, level)
				}
				for _, level := range append(none(vars), vars-1) {
					if e := swaps(t, s, level); e != api.ErrVar {
						t.Fatalf("%d variables: Swap(%d): %v", vars, level, e)
					}
				}
				for _, level := range none(vars) {
					if n := swap.Needs(s, level); n != 0 {
						t.Fatalf("%d variables: Needs(%d): %d", vars, level, n)
					}
				}
			}
		}
	}
}

// P18.1: in a store without nodes each level is exchanged, in room for none but one.
func TestSwapOfNothing(t *testing.T) {
	for vars := 1; vars <= api.MaxVars; vars++ {
		s := store(t, vars, 1)
		for level := range vars - 1 {
			if e := swaps(t, s, level); e != api.OK || s.Len() != 0 {
				t.Fatalf("Swap(%d): %v, %d nodes", level, e, s.Len())
			}
		}
	}
}

// P18.1: all nodes of two variables, in all subsets of these: of each handle the function stays, and exchanged twice each node is what it was.
func TestSubsetsOfTwo(t *testing.T) {
	for set := range 1 << 14 {
		var l []api.Func
		for i := range 14 {
			if set>>i&1 == 1 {
				l = append(l, truth.Restrict(api.Func{uint64(i) + 1}, 0xfc, 0))
			}
		}
		s, _ := alike(t, 2, 14+12*2, l)
		s.Cached(set%2 == 0)
		was := held(s)
		for range 2 {
			if e := swaps(t, s, 0); e != api.OK {
				t.Fatalf("set %x: %v", set, e)
			}
		}
		for h, k := range was {
			if of(s, h) != k {
				t.Fatalf("set %x: node %d is %v, was %v", set, h, of(s, h), k)
			}
		}
	}
}

// P18.1, P18.3: all 256 functions of three variables, through all orders of these: there is no other node to be made, and each handle is its function.
func TestAllOfThree(t *testing.T) {
	var l []api.Func
	for n := range uint64(256) {
		l = append(l, truth.Restrict(api.Func{n}, 0xf8, 0))
	}
	s, handles := alike(t, 3, 1000, l)
	for i := range 12 {
		if e := swaps(t, s, i%2); e != api.OK || s.Len() != 254 {
			t.Fatalf("Swap(%d): %v, %d nodes", i%2, e, s.Len())
		}
		for n, h := range handles {
			if got := lay(t, s, l[n], 0); got != h {
				t.Fatalf("order %v: %x is %d, was %d", s.Order().All(), l[n], got, h)
			}
		}
	}
	if !slices.Equal(s.Order().All(), []int{0, 1, 2}) {
		t.Errorf("order %v", s.Order().All())
	}
}

// P18.1, P18.3: levels exchanged one behind the other in drawn turns, with the cache on and off, in little room and in much: what was laid is the same handle, also of those that nobody holds.
func TestSwapDrawn(t *testing.T) {
	did, full := 0, 0
	for vars := 1; vars <= api.MaxVars; vars++ {
		for round := range 24 {
			d := draw(100*vars + round)
			l := d.functions(vars, 1+round%4)
			s, handles := alike(t, vars, max(size(vars, l), 1)*(1+round%6), l)
			s.Cached(round%2 == 0)
			for range 12 {
				switch swaps(t, s, d.next(vars+2)-1) {
				case api.OK:
					did++
				case api.ErrFull:
					full++
				}
				// Most of the time nothing is looked for in between.
				if d.next(3) > 0 {
					continue
				}
				once(t, s)
				for i, h := range handles {
					if got := lay(t, s, l[i], 0); got != h {
						t.Fatalf("order %v: %x is %d, was %d", s.Order().All(), l[i], got, h)
					}
				}
			}
		}
	}
	if did < 500 || full < 100 {
		t.Errorf("%d swaps, %d refused", did, full)
	}
}

// P18.1: just so much room as Needs asks is enough, though it may not be used; one less is ErrFull, and nothing is changed, also where nothing would have to be made.
func TestJustRoom(t *testing.T) {
	for vars := 2; vars <= api.MaxVars; vars++ {
		for round := range 8 {
			d := draw(10*vars + round)
			l := d.functions(vars, 1+round%3)
			many, _ := alike(t, vars, api.MaxSlots, l)
			for level := range vars - 1 {
				need := needs(t, many, level)
				for less := range 3 {
					room := many.Len() + need - less
					if need < less || room < 1 {
						continue
					}
					s, handles := alike(t, vars, room, l)
					s.Cached(round%2 == 0)
					want := api.OK
					if less > 0 {
						want = api.ErrFull
					}
					if e := swaps(t, s, level); e != want {
						t.Fatalf("Swap(%d) of %d nodes in room for %d: %v, want %v", level, s.Len(), room, e, want)
					}
					once(t, s)
					for i, h := range handles {
						if function(s, h) != l[i] {
							t.Fatalf("%d is %x, was %x", h, function(s, h), l[i])
						}
					}
				}
			}
		}
	}
}

// P18.1: that there is no such level is told ahead of that there is no room, which a full store of one variable, and the last level of any, would tell.
func TestErrVarFirst(t *testing.T) {
	for vars := 1; vars <= 3; vars++ {
		s := store(t, vars, vars)
		for v := range vars {
			mk(t, s, v, 0, 1)
		}
		for _, level := range append(none(vars), vars-1) {
			if e := swaps(t, s, level); e != api.ErrVar {
				t.Errorf("%d variables: Swap(%d): %v", vars, level, e)
			}
		}
		for level := range vars - 1 {
			if e := swaps(t, s, level); e != api.ErrFull {
				t.Errorf("%d variables: Swap(%d): %v", vars, level, e)
			}
		}
	}
}

// P18.1: a full store whose level has no nodes is exchanged: there is nothing to be made.
func TestFullWithoutNeeds(t *testing.T) {
	s := store(t, 3, 2)
	a, b := mk(t, s, 1, 0, 1), mk(t, s, 2, 0, 1)
	if e := swaps(t, s, 0); e != api.OK || of(s, a) != (triple{0, 0, 1}) || of(s, b) != (triple{2, 0, 1}) || s.Len() != 2 {
		t.Fatalf("%v: %v, %v", e, of(s, a), of(s, b))
	}
	if e := swaps(t, s, 0); e != api.ErrFull {
		t.Fatal(e)
	}
}

// asks is Mk of drawn levels and children, with what each is to be by the order of then.
func asks(t *testing.T, s *nodes.Store, d *draw, many int) []triple {
	t.Helper()
	var l []triple
	for range many {
		known := append([]api.Handle{0, 1}, s.All()...)
		k := triple{d.next(s.Vars()), known[d.next(len(known))], known[d.next(len(known))]}
		h, err := s.Mk(k.level, k.low, k.high)
		deeper := min(s.Level(k.low), s.Level(k.high)) > k.level
		switch {
		case !deeper && err == api.ErrLevel:
		case deeper && err == api.ErrFull && s.Len() == s.Room():
		case deeper && err == api.OK:
			f, v := functions(s), truth.Var(s.Order().Var(k.level))
			if want := truth.Ite(v, f[k.high], f[k.low]); f[h] != want {
				t.Fatalf("order %v: Mk%v: %d is %x, want %x", s.Order().All(), k, h, f[h], want)
			}
			l = append(l, k)
		default:
			t.Fatalf("order %v: Mk%v: %v", s.Order().All(), k, err)
		}
	}
	return l
}

// P18.1, P18.3: what was kept in the cache ahead of a Swap isn't told behind it: the same questions mean other nodes then, and the nodes that were there are the same handles.
func TestCacheIsOfTheOrder(t *testing.T) {
	for vars := 2; vars <= api.MaxVars; vars++ {
		for round := range 6 {
			d := draw(50*vars + round)
			s := store(t, vars, 400)
			s.Cached(round%3 > 0)
			for range 6 {
				asked := asks(t, s, &d, 12)
				if swaps(t, s, d.next(vars-1)) != api.OK {
					mark.Collect(s, nil)
				}
				s.Cached(round%3 == 1)
				for _, k := range asked {
					if !s.Is(k.low) || !s.Is(k.high) || min(s.Level(k.low), s.Level(k.high)) <= k.level || s.Len() == s.Room() {
						continue
					}
					h := mk(t, s, k.level, k.low, k.high)
					f, v := functions(s), truth.Var(s.Order().Var(k.level))
					if want := truth.Ite(v, f[k.high], f[k.low]); f[h] != want {
						t.Fatalf("order %v: Mk%v: %d is %x, want %x", s.Order().All(), k, h, f[h], want)
					}
				}
				whole(t, s)
			}
		}
	}
}

// P18.3: operations behind a Swap of what they told ahead of it: the same handles, as long as nothing is collected; with the cache on and off.
func TestOperationsBehind(t *testing.T) {
	for vars := 2; vars <= api.MaxVars; vars++ {
		for round := range 6 {
			d := draw(70*vars + round)
			s, l := alike(t, vars, api.MaxSlots, d.functions(vars, 3))
			s.Cached(round%2 == 0)
			told := operated(t, s, l)
			for range 6 {
				if e := swaps(t, s, d.next(vars-1)); e != api.OK {
					t.Fatal(e)
				}
				if got := operated(t, s, l); !slices.Equal(got, told) {
					t.Fatalf("order %v: %d, ahead of it %d", s.Order().All(), got, told)
				}
			}
		}
	}
}

// operated is what layer 11 tells of three handles.
func operated(t *testing.T, s *nodes.Store, l []api.Handle) []api.Handle {
	t.Helper()
	not, first := logic.Not(s, l[0])
	and, second := logic.And(s, not, l[1])
	xor, third := logic.Xor(s, and, l[2])
	ite, fourth := logic.Ite(s, xor, l[0], l[1])
	if first+second+third+fourth != api.OK {
		t.Fatalf("%v, %v, %v, %v", first, second, third, fourth)
	}
	f := functions(s)
	if want := truth.And(truth.Not(f[l[0]]), f[l[1]]); f[and] != want || f[xor] != truth.Xor(want, f[l[2]]) || f[ite] != truth.Ite(f[xor], f[l[0]], f[l[1]]) {
		t.Fatalf("order %v: %x, %x, %x", s.Order().All(), f[and], f[xor], f[ite])
	}
	return []api.Handle{not, and, xor, ite}
}

// P18.1, P18.3: behind a collection what is held is as many nodes as truth's Size tells in the order of then, whatever was exchanged ahead of it; and what went is made room for, of which the next Swap makes use.
func TestCollectionsBetween(t *testing.T) {
	for vars := 2; vars <= api.MaxVars; vars++ {
		for round := range 8 {
			d := draw(30*vars + round)
			l := d.functions(vars, 1+round%3)
			s, roots := alike(t, vars, 200*len(l), l)
			s.Cached(round%2 == 0)
			for range 20 {
				level := d.next(vars - 1)
				if _, err := mark.Collect(s, roots); err != api.OK || s.Len() != truth.Size(l, s.Order().All()) {
					t.Fatalf("order %v: %v, %d nodes, truth's %d", s.Order().All(), err, s.Len(), truth.Size(l, s.Order().All()))
				}
				if e := swaps(t, s, level); e != api.OK {
					t.Fatalf("Swap(%d) of %d nodes in room for %d: %v", level, s.Len(), s.Room(), e)
				}
				if d.next(4) == 0 {
					once(t, s)
				}
			}
			for i, h := range roots {
				if function(s, h) != l[i] || lay(t, s, l[i], 0) != h {
					t.Fatalf("order %v: %d is %x, was %x", s.Order().All(), h, function(s, h), l[i])
				}
			}
		}
	}
}

// P18.1: a great store: more nodes than functions of eight variables have, and as many as there is room for.
func TestGreatStore(t *testing.T) {
	s := store(t, api.MaxVars, api.MaxSlots)
	d := draw(5)
	for s.Len() < 9000 {
		lay(t, s, d.function(api.MaxVars), 0)
	}
	for _, level := range []int{6, 5, 4, 3, 0, 1, 2} {
		swaps(t, s, level)
	}
	for fill := mk(t, s, 7, 0, 1); s.Len() < s.Room(); {
		known := s.All()
		low := known[d.next(len(known))]
		for high := fill; s.Len() < s.Room() && s.Level(low) > 0 && high < fill+4000; high++ {
			if s.Is(high) && s.Level(high) > 0 {
				mk(t, s, d.next(min(s.Level(low), s.Level(high))), low, high)
			}
		}
	}
	was := functions(s)
	for level := -1; level <= api.MaxVars; level++ {
		if e := swaps(t, s, level); e == api.OK {
			t.Fatalf("Swap(%d) of a full store", level)
		}
	}
	stay(t, s, was)
}

// P18.2: by hand: each variable is brought up from the upper end on, by one level a swap.
func TestToByHand(t *testing.T) {
	for _, e := range []struct {
		to   []int
		want int
	}{
		{[]int{0, 1, 2, 3}, 0},
		{[]int{1, 0, 2, 3}, 1},
		{[]int{0, 1, 3, 2}, 1},
		{[]int{3, 0, 1, 2}, 3},
		{[]int{1, 2, 3, 0}, 3},
		{[]int{3, 2, 1, 0}, 6},
		{[]int{2, 3, 0, 1}, 4},
	} {
		for _, room := range []int{1, 50} {
			s := store(t, 4, room)
			if n, err := swap.To(s, e.to); n != e.want || err != api.OK || !slices.Equal(s.Order().All(), e.to) {
				t.Errorf("To(%v): %d, %v, want %d, the order is %v", e.to, n, err, e.want, s.Order().All())
			}
		}
	}
}

// brings does what To is to do, by Swap: it tells how many swaps were done, and the error.
func brings(s *nodes.Store, to []int) (int, api.Errno) {
	n := 0
	for level := range to {
		for at := slices.Index(s.Order().All(), to[level]); at > level; at-- {
			if swap.Swap(s, at-1) != api.OK {
				return n, api.ErrFull
			}
			n++
		}
	}
	return n, api.OK
}

// goes fails unless To, of s, answers and does what swaps do of twin, which was told what s was. The list is left as it is, and isn't kept.
func goes(t *testing.T, s, twin *nodes.Store, to []int) (int, api.Errno) {
	t.Helper()
	funcs := functions(s)
	with := append(slices.Clone(to), 0, 1, 77)
	given := slices.Clone(with)
	n, err := swap.To(s, with[:len(to)])
	if !slices.Equal(with, given) {
		t.Fatalf("the list %d is %d behind To", given, with)
	}
	clear(with)
	want, wantErr := brings(twin, to)
	if n != want || err != wantErr {
		t.Fatalf("To(%v): %d, %v, want %d, %v", to, n, err, want, wantErr)
	}
	unchanged(t, s, held(twin), twin.Order().All())
	if err == api.OK && !slices.Equal(s.Order().All(), to) {
		t.Fatalf("To(%v): the order is %v", to, s.Order().All())
	}
	stay(t, s, funcs)
	whole(t, s)
	return n, err
}

// P18.2, P18.3: to each order of three variables from each other one: how many swaps were done, the order, each handle's function, and, behind a collection, as many nodes as under that order; and once more: none.
func TestToOfThree(t *testing.T) {
	for i, from := range orders(3) {
		for j, to := range orders(3) {
			d := draw(10*i + j)
			l := d.functions(3, 3)
			s, twin := ordered(t, from, 200), ordered(t, from, 200)
			s.Cached(j%2 == 0)
			roots := laid(t, s, l)
			laid(t, twin, l)
			want := 0
			for a := range 3 {
				for b := range a {
					if slices.Index(from, to[b]) > slices.Index(from, to[a]) {
						want++
					}
				}
			}
			if n, err := goes(t, s, twin, to); n != want || err != api.OK {
				t.Fatalf("from %v to %v: %d, %v, want %d", from, to, n, err, want)
			}
			same := held(s)
			if n, err := swap.To(s, to); n != 0 || err != api.OK {
				t.Fatalf("from %v to %v: %d, %v", to, to, n, err)
			}
			unchanged(t, s, same, to)
			under(t, s, l, roots)
		}
	}
}

// under fails unless the roots are the functions of l, by Mk too, and there are, behind a collection, as many nodes as under the order of then.
func under(t *testing.T, s *nodes.Store, l []api.Func, roots []api.Handle) {
	t.Helper()
	once(t, s)
	if _, err := mark.Collect(s, roots); err != api.OK || s.Len() != truth.Size(l, s.Order().All()) {
		t.Fatalf("order %v: %v, %d nodes, truth's %d", s.Order().All(), err, s.Len(), truth.Size(l, s.Order().All()))
	}
	for i, h := range roots {
		if function(s, h) != l[i] || lay(t, s, l[i], 0) != h {
			t.Fatalf("order %v: %d is %x, was %x", s.Order().All(), h, function(s, h), l[i])
		}
	}
	if s.Len() != truth.Size(l, s.Order().All()) {
		t.Fatalf("order %v: %d nodes, truth's %d", s.Order().All(), s.Len(), truth.Size(l, s.Order().All()))
	}
}

// P18.2, P18.3: drawn orders of one to eight variables, one behind the other, of drawn functions.
func TestToDrawn(t *testing.T) {
	for vars := 1; vars <= api.MaxVars; vars++ {
		for round := range 10 {
			d := draw(20*vars + round)
			l := d.functions(vars, 1+round%3)
			s, roots := alike(t, vars, api.MaxSlots, l)
			twin, _ := alike(t, vars, api.MaxSlots, l)
			s.Cached(round%2 == 0)
			for range 3 {
				if _, err := goes(t, s, twin, d.order(vars)); err != api.OK {
					t.Fatal(err)
				}
				under(t, s, l, roots)
				under(t, twin, l, roots)
			}
		}
	}
}

// P18.2: what is no order of the store's variables: ErrVar, and nothing is changed, in every order, in a full store and in one that isn't.
func TestNoOrder(t *testing.T) {
	for vars := 1; vars <= api.MaxVars; vars++ {
		d := draw(vars)
		l := d.functions(vars, 2)
		for _, room := range []int{max(size(vars, l), 1), api.MaxSlots} {
			s, _ := alike(t, vars, room, l)
			if room == api.MaxSlots {
				swap.To(s, d.order(vars))
			}
			was, order := held(s), s.Order().All()
			bad := [][]int{nil, {}, order[1:], order[:vars-1], append(slices.Clone(order), vars), append(slices.Clone(order), 0), append(slices.Clone(order), order...)}
			for at := range vars {
				for _, v := range append(none(vars), order[(at+1)%vars]) {
					twice := slices.Clone(order)
					twice[at] = v
					if vars > 1 || v != order[0] {
						bad = append(bad, twice)
					}
				}
			}
			for _, to := range bad {
				given := slices.Clone(to)
				if n, err := swap.To(s, to); n != 0 || err != api.ErrVar || !slices.Equal(to, given) {
					t.Fatalf("order %v: To(%v): %d, %v, the list is %v", order, given, n, err, to)
				}
				unchanged(t, s, was, order)
			}
		}
	}
}

// P18.2: where there is no room on the way: ErrFull, how many swaps were done, and these stay; each handle is its function.
func TestToWithoutRoom(t *testing.T) {
	first, later := 0, 0
	for vars := 2; vars <= api.MaxVars; vars++ {
		for round := range 40 {
			d := draw(60*vars + round)
			l := d.functions(vars, 1+round%2)
			room := max(size(vars, l), 1) + d.next(3*size(vars, l)+1)
			s, roots := alike(t, vars, room, l)
			twin, _ := alike(t, vars, room, l)
			s.Cached(round%2 == 0)
			switch n, err := goes(t, s, twin, d.order(vars)); {
			case err == api.ErrFull && n == 0:
				first++
			case err == api.ErrFull:
				later++
			}
			under(t, s, l, roots)
		}
	}
	if first < 20 || later < 20 {
		t.Errorf("refused at once %d times, %d times on the way", first, later)
	}
}

// DOC.md's rule 6: stores don't know of one another: what one is told changes nothing of the other one, and an order that was told ahead of a Swap is left as it was.
func TestTwoStores(t *testing.T) {
	d := draw(9)
	l := d.functions(4, 3)
	s, _ := alike(t, 4, 200, l)
	o, _ := alike(t, 4, 300, l)
	was, told, all := held(o), s.Order(), s.Order().All()
	for level := range 3 {
		swaps(t, s, level)
		once(t, s)
		unchanged(t, o, was, []int{0, 1, 2, 3})
	}
	once(t, o)
	if swap.To(o, []int{3, 2, 1, 0}); !slices.Equal(s.Order().All(), []int{1, 2, 3, 0}) || !slices.Equal(o.Order().All(), []int{3, 2, 1, 0}) {
		t.Errorf("orders %v and %v", s.Order().All(), o.Order().All())
	}
	if !slices.Equal(told.All(), []int{0, 1, 2, 3}) || !slices.Equal(all, told.All()) {
		t.Errorf("the order of then is %v, %v", told.All(), all)
	}
	if told.Swap(0); !slices.Equal(s.Order().All(), []int{1, 2, 3, 0}) {
		t.Errorf("order %v", s.Order().All())
	}
}

// DOC.md's rule 6: the same calls, the same handles, with the cache and without.
func TestSameAgain(t *testing.T) {
	d := draw(3)
	l := d.functions(6, 4)
	var s *nodes.Store
	for round := range 8 {
		o, _ := alike(t, 6, 2000, l)
		o.Cached(round%2 == 0)
		again := draw(4)
		for range 30 {
			swap.Swap(o, again.next(5))
			lay(t, o, l[again.next(4)], 0)
		}
		if round == 0 {
			s = o // the first one is what the others are held against
		}
		unchanged(t, o, held(s), s.Order().All())
	}
}
