package count_test

import (
	"maps"
	"math"
	"slices"
	"testing"

	"spinney/api"
	"spinney/count"
	"spinney/nodes"
	"spinney/truth"
)

// great are handles that no store gives out: from 2^28 on, those among them of which the lowest 28 bits are a constant's or a node's.
var great = []api.Handle{1 << 28, 1<<28 + 1, 1<<28 + 2, 1<<28 + 3, 1 << 29, 1<<31 - 1, 1 << 31, 1<<31 + 2, math.MaxUint32 - 1, math.MaxUint32}

// store makes a store.
func store(t *testing.T, vars, room int) *nodes.Store {
	t.Helper()
	s, err := nodes.New(vars, room)
	if err != api.OK {
		t.Fatalf("New(%d, %d): %v", vars, room, err)
	}
	return s
}

// triple is what an inner node is made of.
type triple struct {
	level     int
	low, high api.Handle
}

// held is all inner nodes of s.
func held(s *nodes.Store) map[api.Handle]triple {
	m := map[api.Handle]triple{}
	for _, h := range s.All() {
		m[h] = triple{s.Level(h), s.Low(h), s.High(h)}
	}
	return m
}

// same fails unless s holds just the nodes that it held.
func same(t *testing.T, s *nodes.Store, was map[api.Handle]triple) {
	t.Helper()
	if s.Len() != len(was) || !maps.Equal(held(s), was) {
		t.Fatalf("%d nodes: %v, there were %v", s.Len(), held(s), was)
	}
}

// laid makes the node of f by Mk alone.
func laid(t *testing.T, s *nodes.Store, f api.Func) api.Handle {
	t.Helper()
	var down func(f api.Func, level int) api.Handle
	down = func(f api.Func, level int) api.Handle {
		if level == s.Vars() {
			return api.Handle(f[0] & 1)
		}
		v := s.Order().Var(level)
		h, err := s.Mk(level, down(truth.Fix(f, v, false), level+1), down(truth.Fix(f, v, true), level+1))
		if err != api.OK {
			t.Fatalf("no room for %x: %v", f, err)
		}
		return h
	}
	return down(f, 0)
}

// laidAll is laid of each of l.
func laidAll(t *testing.T, s *nodes.Store, l []api.Func) []api.Handle {
	t.Helper()
	var handles []api.Handle
	for _, f := range l {
		handles = append(handles, laid(t, s, f))
	}
	return handles
}

// over is the function of so many variables that is true at those of the first 64 assignments whose bits are set.
func over(vars int, bits uint64) api.Func {
	return truth.Restrict(api.Func{bits}, uint8(255<<vars), 0)
}

// order is the first order of so many variables.
func order(vars int) []int { return []int{0, 1, 2, 3, 4, 5, 6, 7}[:vars] }

// draw is a row of numbers without a pattern.
type draw uint64

func (d *draw) next(below int) int {
	*d = *d*6364136223846793005 + 1442695040888963407
	return int(uint64(*d) >> 33 % uint64(below))
}

// function draws a function of so many variables: true often or seldom, hanging on all variables or on some.
func (d *draw) function(vars int) api.Func {
	var f api.Func
	often := d.next(17)
	for x := range 1 << vars {
		if d.next(16) < often {
			f[x/64] |= 1 << (x % 64)
		}
	}
	f = truth.Restrict(f, uint8(255<<vars), 0)
	if d.next(3) == 0 {
		f = truth.Restrict(f, uint8(d.next(256)), uint8(d.next(256)))
	}
	return f
}

// functions draws so many of them.
func (d *draw) functions(vars, many int) []api.Func {
	var l []api.Func
	for range many {
		l = append(l, d.function(vars))
	}
	return l
}

// means fails unless the calls of one handle tell of h, which is the node of f, what truth's tell of f, and leave the store as it was.
func means(t *testing.T, s *nodes.Store, h api.Handle, f api.Func) {
	t.Helper()
	was := held(s)
	// Each assignment of the store's variables stands as often among the 256 as the other variables have values.
	many := uint64(truth.Count(f) >> (api.MaxVars - s.Vars()))
	if n, err := count.Count(s, h); n != many || err != api.OK {
		t.Fatalf("Count(%d): %d, %v, want %d", h, n, err, many)
	}
	if mask, err := count.Support(s, h); mask != truth.Support(f) || err != api.OK {
		t.Fatalf("Support(%d): %x, %v, want %x", h, mask, err, truth.Support(f))
	}
	least, some := truth.One(f)
	if x, ok, err := count.One(s, h); x != least || ok != some || err != api.OK {
		t.Fatalf("One(%d): %d, %t, %v, want %d, %t", h, x, ok, err, least, some)
	}
	for x := range 256 {
		if is, err := count.Eval(s, h, uint8(x)); is != truth.Eval(f, uint8(x)) || err != api.OK {
			t.Fatalf("Eval(%d, %d): %t, %v", h, x, is, err)
		}
	}
	same(t, s, was)
}

// reached is how many inner nodes lie on each level of those that Low and High reach from l, and how many in all.
func reached(s *nodes.Store, l []api.Handle) ([]int, int) {
	n, all := make([]int, s.Vars()), 0
	work, done := slices.Clone(l), map[api.Handle]bool{0: true, 1: true}
	for len(work) > 0 {
		h := work[0]
		work = work[1:]
		if !done[h] {
			done[h] = true
			n[s.Level(h)]++
			all++
			work = append(work, s.Low(h), s.High(h))
		}
	}
	return n, all
}

// lent hands a list over with spare room behind it, and fails unless both are as they were then. A nil list is handed over as such.
func lent(t *testing.T, l []api.Handle, do func([]api.Handle)) {
	t.Helper()
	if l == nil {
		do(nil)
		return
	}
	with := append(slices.Clone(l), 77, 77, 77)
	was := slices.Clone(with)
	do(with[:len(l)])
	if !slices.Equal(with, was) {
		t.Fatalf("the list %d is %d behind the call", was, with)
	}
}

// sized fails unless Size and Levels tell of l what is reached from it, again too, and leave the list and the store as they were. It tells the size.
func sized(t *testing.T, s *nodes.Store, l []api.Handle) int {
	t.Helper()
	was := held(s)
	want, all := reached(s, l)
	for range 2 {
		lent(t, l, func(l []api.Handle) {
			if n, err := count.Size(s, l); n != all || err != api.OK {
				t.Fatalf("Size(%d): %d, %v, want %d", l, n, err, all)
			}
		})
		lent(t, l, func(l []api.Handle) {
			n, err := count.Levels(s, l)
			if len(n) != s.Vars() || !slices.Equal(n, want) || err != api.OK {
				t.Fatalf("Levels(%d): %d, %v, want %d", l, n, err, want)
			}
		})
	}
	same(t, s, was)
	return all
}

// refusesOne fails unless all calls of one handle refuse n, with zeros beside the error.
func refusesOne(t *testing.T, s *nodes.Store, n api.Handle) {
	t.Helper()
	was := held(s)
	if got, err := count.Count(s, n); got != 0 || err != api.ErrNode {
		t.Fatalf("Count(%d): %d, %v", n, got, err)
	}
	if got, err := count.Support(s, n); got != 0 || err != api.ErrNode {
		t.Fatalf("Support(%d): %x, %v", n, got, err)
	}
	if x, ok, err := count.One(s, n); x != 0 || ok || err != api.ErrNode {
		t.Fatalf("One(%d): %d, %t, %v", n, x, ok, err)
	}
	for x := range 256 {
		if is, err := count.Eval(s, n, uint8(x)); is || err != api.ErrNode {
			t.Fatalf("Eval(%d, %d): %t, %v", n, x, is, err)
		}
	}
	same(t, s, was)
}

// refusesList fails unless both calls of a list refuse l, with zeros beside the error.
func refusesList(t *testing.T, s *nodes.Store, l []api.Handle) {
	t.Helper()
	was := held(s)
	lent(t, l, func(l []api.Handle) {
		if n, err := count.Size(s, l); n != 0 || err != api.ErrNode {
			t.Fatalf("Size(%d): %d, %v", l, n, err)
		}
	})
	lent(t, l, func(l []api.Handle) {
		if n, err := count.Levels(s, l); len(n) != 0 || err != api.ErrNode {
			t.Fatalf("Levels(%d): %d, %v", l, n, err)
		}
	})
	same(t, s, was)
}

// P14.2: the chapter's example: the size of a variable is 1, on its own level.
func TestExample(t *testing.T) {
	for vars := 1; vars <= api.MaxVars; vars++ {
		s := store(t, vars, vars)
		for v := range vars {
			h := laid(t, s, truth.Var(v))
			if n := sized(t, s, []api.Handle{h}); n != 1 {
				t.Errorf("%d variables: the size of variable %d is %d", vars, v, n)
			}
			if n, _ := count.Levels(s, []api.Handle{h}); n[v] != 1 {
				t.Errorf("%d variables: the levels of variable %d are %d", vars, v, n)
			}
		}
	}
}

// P14.1: what is told of one function, by hand: it is true where variable 0 is and 2 isn't, or where 1 and 2 are.
func TestByHand(t *testing.T) {
	s := store(t, 4, 20)
	a, first := s.Mk(2, 1, 0)
	b, second := s.Mk(2, 0, 1)
	c, third := s.Mk(1, 0, b)
	d, fourth := s.Mk(1, a, 1)
	h, fifth := s.Mk(0, c, d)
	if first+second+third+fourth+fifth != api.OK {
		t.Fatal("no room")
	}
	n, err := count.Count(s, h)
	if n != 8 || err != api.OK {
		t.Errorf("Count: %d, %v, want 8", n, err)
	}
	mask, err := count.Support(s, h)
	if mask != 7 || err != api.OK {
		t.Errorf("Support: %x, %v, want 7", mask, err)
	}
	x, ok, err := count.One(s, h)
	if x != 1 || !ok || err != api.OK {
		t.Errorf("One: %d, %t, %v, want 1", x, ok, err)
	}
	for x := range 256 {
		want := slices.Contains([]int{1, 3, 6, 7}, x%8)
		if is, err := count.Eval(s, h, uint8(x)); is != want || err != api.OK {
			t.Errorf("Eval at %d: %t, %v", x, is, err)
		}
	}
	if n, err := count.Size(s, []api.Handle{h}); n != 5 || err != api.OK {
		t.Errorf("Size: %d, %v, want 5", n, err)
	}
	if l, err := count.Levels(s, []api.Handle{h}); !slices.Equal(l, []int{1, 2, 2, 0}) || err != api.OK {
		t.Errorf("Levels: %d, %v, want 1 2 2 0", l, err)
	}
}

// P14.1, P14.2: what isn't a node is refused by every call, alone, in stores that are empty, full, or neither.
func TestNoNode(t *testing.T) {
	for _, vars := range []int{1, 3, api.MaxVars} {
		for _, room := range []int{1, 50, api.MaxSlots} {
			s := store(t, vars, room)
			for range 2 {
				next := api.Handle(2 + s.Len())
				for _, n := range append([]api.Handle{next, next + 1, 100, 1<<15 + 2, 1<<28 - 1}, great...) {
					refusesOne(t, s, n)
					refusesList(t, s, []api.Handle{n})
				}
				laid(t, s, truth.Var(vars-1))
			}
		}
	}
}

// P14.2: what isn't a node is refused in every place of a list, beside nodes and constants, beside others that are none, and however long the list is.
func TestNoNodeInLists(t *testing.T) {
	for _, vars := range []int{1, 3, api.MaxVars} {
		s := store(t, vars, 600)
		d := draw(vars)
		laidAll(t, s, d.functions(vars, 3))
		all := append([]api.Handle{0, 1}, s.All()...)
		next := api.Handle(2 + s.Len())
		for _, n := range append([]api.Handle{next, next + 1, 1<<28 - 1}, great...) {
			for _, length := range []int{1, 2, 3, 9, 70} {
				var l []api.Handle
				for range length {
					l = append(l, all[d.next(len(all))])
				}
				for at := range l {
					with := slices.Clone(l)
					with[at] = n
					refusesList(t, s, with)
				}
				sized(t, s, l)
				refusesList(t, s, slices.Repeat([]api.Handle{n}, length))
			}
		}
	}
}

// P14.1: the constants in every call, in stores of all sizes, with inner nodes beside and without: true is Count's 2^Vars, and false is a function without one.
func TestConstants(t *testing.T) {
	for vars := 1; vars <= api.MaxVars; vars++ {
		s := store(t, vars, 300)
		for range 2 {
			means(t, s, api.False, truth.Const(false))
			means(t, s, api.True, truth.Const(true))
			if n, err := count.Count(s, api.True); n != 1<<vars || err != api.OK {
				t.Errorf("%d variables: Count(1): %d, %v", vars, n, err)
			}
			if n, err := count.Count(s, api.False); n != 0 || err != api.OK {
				t.Errorf("%d variables: Count(0): %d, %v", vars, n, err)
			}
			if x, ok, err := count.One(s, api.True); x != 0 || !ok || err != api.OK {
				t.Errorf("%d variables: One(1): %d, %t, %v", vars, x, ok, err)
			}
			if x, ok, err := count.One(s, api.False); x != 0 || ok || err != api.OK {
				t.Errorf("%d variables: One(0): %d, %t, %v", vars, x, ok, err)
			}
			d := draw(vars)
			laidAll(t, s, d.functions(vars, 2))
		}
	}
}

// P14.1, P14.2, P14.3: all functions of up to three variables, in stores of these and of more variables.
func TestAllOfThree(t *testing.T) {
	for vars := 1; vars <= 3; vars++ {
		for _, more := range []int{0, 1, api.MaxVars - vars} {
			s := store(t, vars+more, 300)
			order := s.Order().All()
			for n := range uint64(1) << (1 << vars) {
				f := over(vars, n)
				h := laid(t, s, f)
				means(t, s, h, f)
				if n := sized(t, s, []api.Handle{h}); n != truth.Size([]api.Func{f}, order) {
					t.Fatalf("the size of %x is %d, truth's %d", f, n, truth.Size([]api.Func{f}, order))
				}
			}
		}
	}
}

// P14.1: drawn functions of up to eight variables, in stores of these and of more, with the cache and without.
func TestDrawn(t *testing.T) {
	for vars := 1; vars <= api.MaxVars; vars++ {
		d := draw(vars + 40)
		for round := range 40 {
			s := store(t, vars+d.next(api.MaxVars-vars+1), 1000)
			s.Cached(round%2 == 0)
			for _, f := range d.functions(vars, 3) {
				means(t, s, laid(t, s, f), f)
			}
		}
	}
}

// P14.1: functions that are true at one assignment alone, and at all but one: each assignment of eight variables is the least of the one, and is counted.
func TestOneAlone(t *testing.T) {
	s := store(t, api.MaxVars, 3000)
	for x := range 256 {
		var f api.Func
		f[x/64] = 1 << (x % 64)
		h, n := laid(t, s, f), laid(t, s, truth.Not(f))
		if one, ok, err := count.One(s, h); int(one) != x || !ok || err != api.OK {
			t.Fatalf("One where %d is the only one: %d, %t, %v", x, one, ok, err)
		}
		for at, want := range map[api.Handle]uint64{h: 1, n: 255} {
			if many, err := count.Count(s, at); many != want || err != api.OK {
				t.Fatalf("Count of %d, at %d alone: %d, %v, want %d", at, x, many, err, want)
			}
		}
	}
}

// P14.1: functions that are true from some assignment on: that one is the least of them.
func TestOneFrom(t *testing.T) {
	s := store(t, api.MaxVars, 3000)
	var f api.Func
	for x := 255; x >= 0; x-- {
		f[x/64] |= 1 << (x % 64)
		means(t, s, laid(t, s, f), f)
	}
}

// P14.1: bits of x that are no variables' change nothing.
func TestEvalBeyond(t *testing.T) {
	for vars := 1; vars < api.MaxVars; vars++ {
		d := draw(vars + 80)
		s := store(t, vars, 500)
		for range 10 {
			h := laid(t, s, d.function(vars))
			for x := range 256 {
				want, first := count.Eval(s, h, uint8(x%(1<<vars)))
				is, second := count.Eval(s, h, uint8(x))
				if is != want || first != api.OK || second != api.OK {
					t.Fatalf("Eval(%d, %d): %t, %v, without the bits of no variables %t, %v", h, x, is, second, want, first)
				}
			}
		}
	}
}

// P14.2: lists without inner nodes: of each level none, as many levels as there are variables.
func TestNothingInLists(t *testing.T) {
	for vars := 1; vars <= api.MaxVars; vars++ {
		s := store(t, vars, 300)
		for range 2 {
			for _, l := range [][]api.Handle{nil, {}, {0}, {1}, {0, 1}, {1, 1, 1}, slices.Repeat([]api.Handle{0, 1, 1}, 40)} {
				if n := sized(t, s, l); n != 0 {
					t.Errorf("Size(%d): %d", l, n)
				}
				if n, err := count.Levels(s, l); !slices.Equal(n, make([]int, vars)) || err != api.OK {
					t.Errorf("Levels(%d): %d, %v", l, n, err)
				}
			}
			d := draw(vars)
			laidAll(t, s, d.functions(vars, 2))
		}
	}
}

// P14.2: a node is counted once, however often it is in the list, and however often it is reached: from itself, from what lies above it, from what lies beside it; in whatever order they come.
func TestOnce(t *testing.T) {
	s := store(t, 4, 50)
	bottom, _ := s.Mk(3, 0, 1)
	middle, _ := s.Mk(2, bottom, 1)
	other, _ := s.Mk(2, 0, bottom)
	top, _ := s.Mk(0, middle, other)
	beside, _ := s.Mk(1, middle, bottom)
	for _, c := range []struct {
		l    []api.Handle
		want []int
	}{
		{[]api.Handle{bottom}, []int{0, 0, 0, 1}},
		{[]api.Handle{bottom, bottom, bottom}, []int{0, 0, 0, 1}},
		{[]api.Handle{middle, bottom}, []int{0, 0, 1, 1}},
		{[]api.Handle{bottom, middle}, []int{0, 0, 1, 1}},
		{[]api.Handle{middle, other}, []int{0, 0, 2, 1}},
		{[]api.Handle{top}, []int{1, 0, 2, 1}},
		{[]api.Handle{bottom, other, middle, top}, []int{1, 0, 2, 1}},
		{[]api.Handle{top, middle, other, bottom, top}, []int{1, 0, 2, 1}},
		{[]api.Handle{beside}, []int{0, 1, 1, 1}},
		{[]api.Handle{beside, top}, []int{1, 1, 2, 1}},
		{[]api.Handle{0, top, 1, beside, 0, top}, []int{1, 1, 2, 1}},
	} {
		sized(t, s, c.l)
		if n, err := count.Levels(s, c.l); !slices.Equal(n, c.want) || err != api.OK {
			t.Errorf("Levels(%d): %d, %v, want %d", c.l, n, err, c.want)
		}
	}
}

// P14.2, P14.3: drawn lists of drawn functions, and of what is reached from them: Size is truth's of the functions, Levels are its parts; what else the store holds isn't counted.
func TestDrawnLists(t *testing.T) {
	for vars := 1; vars <= api.MaxVars; vars++ {
		d := draw(vars + 120)
		for round := range 30 {
			s := store(t, vars, 4000)
			s.Cached(round%2 == 0)
			laidAll(t, s, d.functions(vars, 3))
			l := d.functions(vars, d.next(7))
			for range d.next(3) {
				// Parts of the ones that are there, which the nodes of these reach.
				for _, f := range slices.Clone(l) {
					l = append(l, truth.Fix(f, 0, d.next(2) == 0))
				}
			}
			handles := laidAll(t, s, l)
			want := truth.Size(l, s.Order().All())
			if n := sized(t, s, handles); n != want {
				t.Fatalf("Size(%d): %d, truth's %d", handles, n, want)
			}
			n, err := count.Levels(s, handles)
			sum := 0
			for _, k := range n {
				sum += k
			}
			if sum != want || err != api.OK {
				t.Fatalf("Levels(%d): %d, %v: %d in all, truth's size %d", handles, n, err, sum, want)
			}
		}
	}
}

// P14.2, P14.3: of all nodes that a store holds, the size is its Len; of one function's no more than Inner.
func TestWholeStore(t *testing.T) {
	for vars := 1; vars <= api.MaxVars; vars++ {
		d := draw(vars + 160)
		s := store(t, vars, 4000)
		for _, f := range d.functions(vars, 12) {
			if n := sized(t, s, []api.Handle{laid(t, s, f)}); n > api.Inner {
				t.Errorf("the size of %x is %d", f, n)
			}
		}
		if n := sized(t, s, s.All()); n != s.Len() {
			t.Errorf("the size of all %d nodes is %d", s.Len(), n)
		}
	}
}

// DOC.md's rule 3: what Levels answers is the caller's own, its spare room too: whatever is written there, no other answer is touched.
func TestOwnAnswer(t *testing.T) {
	for vars := 1; vars <= api.MaxVars; vars++ {
		d := draw(vars + 200)
		s := store(t, vars, 1000)
		l := laidAll(t, s, d.functions(vars, 2))
		want, _ := reached(s, l)
		before, _ := count.Levels(s, l)
		n, _ := count.Levels(s, l)
		for i := range n[:cap(n)] {
			n[:cap(n)][i] = -5
		}
		after, _ := count.Levels(s, l)
		if !slices.Equal(before, want) || !slices.Equal(after, want) {
			t.Errorf("%d variables: %d and %d, want %d", vars, before, after, want)
		}
		sized(t, s, l)
	}
}

// DOC.md's rule 6: what was asked before changes nothing: the same calls in another order, refused ones and ones of lists in between, and nodes made in between.
func TestAskedBefore(t *testing.T) {
	d := draw(240)
	s := store(t, 5, 1000)
	l := d.functions(5, 6)
	handles := laidAll(t, s, l)
	for range 60 {
		i := d.next(len(l))
		switch d.next(5) {
		case 0:
			refusesOne(t, s, great[d.next(len(great))])
		case 1:
			refusesList(t, s, append(slices.Clone(handles), great[d.next(len(great))]))
		case 2:
			sized(t, s, handles[:i])
		case 3:
			laid(t, s, d.function(5))
		}
		means(t, s, handles[i], l[i])
		if n := sized(t, s, handles[i:]); n != truth.Size(l[i:], s.Order().All()) {
			t.Fatalf("Size(%d): %d", handles[i:], n)
		}
	}
}

// DOC.md's rule 6: stores don't know of one another: of the same numbers each tells its own nodes, by its own variables.
func TestTwoStores(t *testing.T) {
	d := draw(280)
	small, big := store(t, 3, 300), store(t, api.MaxVars, 3000)
	ofSmall, ofBig := d.functions(3, 4), d.functions(api.MaxVars, 4)
	fromSmall, fromBig := laidAll(t, small, ofSmall), laidAll(t, big, ofBig)
	for i := range ofSmall {
		means(t, small, fromSmall[i], ofSmall[i])
		means(t, big, fromBig[i], ofBig[i])
	}
	for _, h := range small.All() {
		// Numbers that both have are unlike nodes: each tells by its own.
		l := []api.Handle{h, 1, h}
		was := held(big)
		sized(t, small, l)
		same(t, big, was)
		was = held(small)
		sized(t, big, l)
		same(t, small, was)
	}
	n := slices.Max(big.All())
	if small.Is(n) {
		t.Fatalf("%d is a node of both", n)
	}
	refusesOne(t, small, n)
	refusesList(t, small, []api.Handle{1, n})
	sized(t, big, []api.Handle{1, n})
}

// P14.1, P14.2: a store that is full to its room answers as any other, also one of a single slot.
func TestFull(t *testing.T) {
	s := store(t, 1, 1)
	h := laid(t, s, truth.Var(0))
	means(t, s, h, truth.Var(0))
	if n := sized(t, s, []api.Handle{h, h}); n != 1 {
		t.Errorf("Size: %d", n)
	}
	for vars := 2; vars <= api.MaxVars; vars++ {
		d := draw(vars + 320)
		f := truth.Xor(truth.Var(vars-1), truth.And(truth.Var(0), d.function(vars)))
		size := truth.Size([]api.Func{f}, order(vars))
		s := store(t, vars, size)
		h := laid(t, s, f)
		if s.Len() != s.Room() {
			t.Fatalf("%d nodes in room for %d", s.Len(), s.Room())
		}
		means(t, s, h, f)
		if n := sized(t, s, []api.Handle{h}); n != size {
			t.Errorf("Size: %d, want %d", n, size)
		}
	}
}

// P14.1, P14.2: a store of room for the most, as full as drawn functions make it, and a list of all of them.
func TestGreatestStore(t *testing.T) {
	d := draw(360)
	s := store(t, api.MaxVars, api.MaxSlots)
	var l []api.Func
	for s.Len() < api.MaxSlots-api.Inner {
		f := d.function(api.MaxVars)
		laid(t, s, f)
		if len(l) < 100 {
			l = append(l, f)
		}
	}
	handles := laidAll(t, s, l)
	if n := sized(t, s, handles); n != truth.Size(l, order(api.MaxVars)) {
		t.Errorf("Size of %d functions: %d, truth's %d", len(l), n, truth.Size(l, order(api.MaxVars)))
	}
	if n := sized(t, s, slices.Repeat(s.All(), 3)); n != s.Len() {
		t.Errorf("Size of all: %d of %d", n, s.Len())
	}
	means(t, s, handles[0], l[0])
}
