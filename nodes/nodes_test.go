package nodes_test

import (
	"math"
	"slices"
	"testing"

	"spinney/api"
	"spinney/nodes"
)

// below are numbers below 0.
var below = []int{-1, -2, -8, -256, -1 << 32, math.MinInt32, math.MinInt + 1, math.MinInt}

// beyond are numbers from n on, those among them of which the lowest bits are small.
func beyond(n int) []int {
	return []int{n, n + 1, 2 * n, n + 256, n + 1<<16, 1 << 32, 1<<32 + 1, math.MaxInt32, math.MaxInt - 1, math.MaxInt}
}

// great are handles that no store gives out: from 2^28 on, those among them of which the lowest 28 bits are a constant's or a node's.
var great = []api.Handle{1 << 28, 1<<28 + 1, 1<<28 + 2, 1<<28 + 3, 1 << 29, 1<<31 - 1, 1 << 31, 1<<31 + 2, math.MaxUint32 - 1, math.MaxUint32}

// triple is what an inner node is made of.
type triple struct {
	level     int
	low, high api.Handle
}

// plain is what a store holds, as it was told: each inner node by its handle and the other way round, and the table of each node's function.
type plain struct {
	vars, room int
	order      []int
	has        map[triple]api.Handle
	made       map[api.Handle]triple
	funcs      map[api.Handle]api.Func
}

// empty is what a store holds at first, when each variable lies at the level of its own number.
func empty(vars, room int) *plain {
	return &plain{
		vars:  vars,
		room:  room,
		order: []int{0, 1, 2, 3, 4, 5, 6, 7}[:vars],
		has:   map[triple]api.Handle{},
		made:  map[api.Handle]triple{},
		funcs: map[api.Handle]api.Func{0: {}, 1: {^uint64(0), ^uint64(0), ^uint64(0), ^uint64(0)}},
	}
}

// store makes a store, and what it holds.
func store(t *testing.T, vars, room int) (*nodes.Store, *plain) {
	t.Helper()
	s, err := nodes.New(vars, room)
	if s == nil || err != api.OK {
		t.Fatalf("New(%d, %d): %v", vars, room, err)
	}
	return s, empty(vars, room)
}

// is tells whether h is a node.
func (p *plain) is(h api.Handle) bool {
	_, there := p.made[h]
	return h < 2 || there
}

// parts is what Level, Low and High are to tell of h.
func (p *plain) parts(h api.Handle) triple {
	if h < 2 {
		return triple{p.vars, h, h}
	}
	if k, there := p.made[h]; there {
		return k
	}
	return triple{-1, 0, 0}
}

// refuses is the error of Mk, OK if it isn't refused.
func (p *plain) refuses(k triple) api.Errno {
	_, there := p.has[k]
	switch {
	case k.level < 0 || k.level >= p.vars:
		return api.ErrVar
	case !p.is(k.low) || !p.is(k.high):
		return api.ErrNode
	case p.parts(k.low).level <= k.level || p.parts(k.high).level <= k.level:
		return api.ErrLevel
	case k.low != k.high && !there && len(p.made) == p.room:
		return api.ErrFull
	}
	return api.OK
}

// all is what All is to tell.
func (p *plain) all() []api.Handle {
	l := []api.Handle{}
	for h := range p.made {
		l = append(l, h)
	}
	slices.Sort(l)
	return l
}

// joined is the function that is high where variable v is true, else low.
func joined(v int, low, high api.Func) api.Func {
	var f api.Func
	for x := range 256 {
		from := low
		if x>>v&1 == 1 {
			from = high
		}
		f[x/64] |= from[x/64] >> (x % 64) & 1 << (x % 64)
	}
	return f
}

// mk asks s for a node, fails unless it answers what was told, and tells p if it was made.
func mk(t *testing.T, s *nodes.Store, p *plain, level int, low, high api.Handle) api.Handle {
	t.Helper()
	k := triple{level, low, high}
	want := p.refuses(k)
	was, there := p.has[k]
	h, err := s.Mk(level, low, high)
	switch {
	case err != want:
		t.Fatalf("Mk%v: %v, want %v", k, err, want)
	case err != api.OK && h != 0:
		t.Fatalf("Mk%v: %d beside %v", k, h, err)
	case err != api.OK:
	case low == high && h != low:
		t.Fatalf("Mk%v: %d, want its low", k, h)
	case low == high:
	case there && h != was:
		t.Fatalf("Mk%v: %d, but it was %d", k, h, was)
	case there:
	case h < 2 || h >= 1<<28 || p.is(h):
		t.Fatalf("Mk%v: %d of a new node", k, h)
	default:
		p.has[k], p.made[h] = h, k
		p.funcs[h] = joined(p.order[level], p.funcs[low], p.funcs[high])
	}
	if s.Len() != len(p.made) {
		t.Fatalf("Len %d behind Mk%v, want %d", s.Len(), k, len(p.made))
	}
	return h
}

// look fails unless s tells of h what p does.
func look(t *testing.T, s *nodes.Store, p *plain, h api.Handle) {
	t.Helper()
	if s.Is(h) != p.is(h) {
		t.Fatalf("Is(%d): %v", h, s.Is(h))
	}
	if got, want := (triple{s.Level(h), s.Low(h), s.High(h)}), p.parts(h); got != want {
		t.Fatalf("node %d: %v, want %v", h, got, want)
	}
}

// expect fails unless s tells what p does, in each of the calls that leave it as it is.
func expect(t *testing.T, s *nodes.Store, p *plain) {
	t.Helper()
	if s.Vars() != p.vars || s.Room() != p.room || s.Len() != len(p.made) {
		t.Fatalf("Vars %d, Room %d, Len %d, want %d, %d, %d", s.Vars(), s.Room(), s.Len(), p.vars, p.room, len(p.made))
	}
	all := p.all()
	if got := s.All(); !slices.Equal(got, all) {
		t.Fatalf("All %v, want %v", got, all)
	}
	asked := append([]api.Handle{0, 1, 2, 3, 1<<28 - 1}, great...)
	for _, h := range all {
		asked = append(asked, h, h-1, h+1, h|1<<28)
	}
	for _, h := range asked {
		look(t, s, p, h)
	}
	if o := s.Order(); o.Len() != p.vars {
		t.Fatalf("an order of %d variables, want %d", o.Len(), p.vars)
	}
	for level, v := range p.order {
		if s.Order().Var(level) != v || s.Order().Level(v) != level {
			t.Fatalf("order %v, want %v", s.Order().All(), p.order)
		}
	}
}

// never is a handle that s hasn't given.
func (p *plain) never() api.Handle {
	h := api.Handle(2)
	for p.is(h) {
		h++
	}
	return h
}

// value is what the node is at assignment x, by a walk down to a constant.
func value(s *nodes.Store, h api.Handle, x int) bool {
	o := s.Order()
	for h > 1 {
		if x>>o.Var(s.Level(h))&1 == 1 {
			h = s.High(h)
		} else {
			h = s.Low(h)
		}
	}
	return h == 1
}

// function is the table of the node's function, by walks at all assignments.
func function(s *nodes.Store, h api.Handle) api.Func {
	var f api.Func
	for x := range 256 {
		if value(s, h, x) {
			f[x/64] |= 1 << (x % 64)
		}
	}
	return f
}

// draw is a row of numbers without a pattern.
type draw uint64

func (d *draw) next(below int) int {
	*d = *d*6364136223846793005 + 1442695040888963407
	return int(uint64(*d) >> 33 % uint64(below))
}

// fill makes nodes of those that are there, level by level from the deepest on, until so many are there.
func fill(t *testing.T, s *nodes.Store, p *plain, want int) {
	t.Helper()
	for level := p.vars - 1; level >= 0; level-- {
		deeper := append([]api.Handle{0, 1}, p.all()...)
		for _, low := range deeper {
			for _, high := range deeper {
				if len(p.made) == want {
					return
				}
				mk(t, s, p, level, low, high)
			}
		}
	}
	t.Fatalf("%d nodes, want %d", len(p.made), want)
}

// P10.1: New refuses what isn't there, the variables first, and tells nothing beside an error.
func TestNew(t *testing.T) {
	wrongVars := slices.Concat([]int{0}, below, beyond(api.MaxVars+1))
	wrongSlots := slices.Concat([]int{0}, below, beyond(api.MaxSlots+1))
	for vars := 1; vars <= api.MaxVars; vars++ {
		for _, slots := range []int{1, 2, 3, 1000, api.MaxLines, api.MaxLines + 1, api.Enough, api.MaxSlots - 1, api.MaxSlots} {
			s, p := store(t, vars, slots)
			expect(t, s, p)
		}
		for _, slots := range wrongSlots {
			if s, err := nodes.New(vars, slots); s != nil || err != api.ErrFull {
				t.Errorf("New(%d, %d): %v, %v", vars, slots, s, err)
			}
		}
	}
	for _, vars := range wrongVars {
		for _, slots := range append([]int{1, api.MaxSlots}, wrongSlots...) {
			if s, err := nodes.New(vars, slots); s != nil || err != api.ErrVar {
				t.Errorf("New(%d, %d): %v, %v", vars, slots, s, err)
			}
		}
	}
}

// P10.1, and DOC.md's rule 1: what New didn't make has no variable and no room, and answers to each call.
func TestZero(t *testing.T) {
	var s nodes.Store
	p := empty(0, 0)
	for _, level := range append(beyond(0), below...) {
		mk(t, &s, p, level, 0, 1)
		mk(t, &s, p, level, 2, 2)
	}
	s.Cached(false)
	s.Cached(true)
	if n := s.Retain([]api.Handle{0, 1, 2, math.MaxUint32}); n != 0 {
		t.Errorf("%d gone of none", n)
	}
	expect(t, &s, p)
}

// P10.1: the order that is told is a copy: whatever is done with it, the store's stays, and so do its nodes.
func TestOrderIsCopy(t *testing.T) {
	s, p := store(t, 4, 20)
	a := mk(t, s, p, 3, 0, 1)
	mk(t, s, p, 1, a, 1)
	kept := s.Order()
	o := s.Order()
	o.Swap(0)
	o.Set([]int{3, 2, 1, 0})
	expect(t, s, p)
	mk(t, s, p, 0, a, 0)
	expect(t, s, p)
	if !slices.Equal(kept.All(), []int{0, 1, 2, 3}) || !slices.Equal(o.All(), []int{3, 2, 1, 0}) {
		t.Errorf("the copies are %v and %v", kept.All(), o.All())
	}
}

// P10.1: the constants are nodes of every store, full or empty, and no inner ones.
func TestConstants(t *testing.T) {
	for vars := 1; vars <= api.MaxVars; vars++ {
		s, p := store(t, vars, 2)
		for range 3 {
			for _, h := range []api.Handle{0, 1} {
				if !s.Is(h) || s.Level(h) != vars || s.Low(h) != h || s.High(h) != h || slices.Contains(s.All(), h) {
					t.Errorf("%d variables: the constant %d: %v, %d, %d, %d", vars, h, s.Is(h), s.Level(h), s.Low(h), s.High(h))
				}
			}
			mk(t, s, p, vars-1, api.Handle(len(p.made)&1), 1-api.Handle(len(p.made)&1))
		}
	}
}

// P10.2: the chapter's example.
func TestExample(t *testing.T) {
	s, _ := nodes.New(1, 1)
	a, first := s.Mk(0, 0, 1)
	b, second := s.Mk(0, 0, 1)
	if a != b || a < 2 || first != api.OK || second != api.OK || s.Len() != 1 {
		t.Errorf("Mk(0, 0, 1) twice: %d, %d (%v, %v), Len %d", a, b, first, second, s.Len())
	}
}

// P10.2: levels are those from 0 to Vars - 1; of others ErrVar, whatever the children are.
func TestLevels(t *testing.T) {
	for vars := 1; vars <= api.MaxVars; vars++ {
		s, p := store(t, vars, 40)
		for level := range vars {
			mk(t, s, p, level, 0, 1)
			mk(t, s, p, level, 1, 0)
		}
		a := p.has[triple{0, 0, 1}]
		for _, level := range append(beyond(vars), below...) {
			for _, k := range []triple{{level, 0, 1}, {level, 1, 0}, {level, 1, 1}, {level, a, 0}, {level, a, a}, {level, p.never(), 1}, {level, 0, math.MaxUint32}, {level, a, p.never()}} {
				if h, err := s.Mk(k.level, k.low, k.high); h != 0 || err != api.ErrVar {
					t.Errorf("%d variables: Mk%v: %d, %v", vars, k, h, err)
				}
			}
		}
		expect(t, s, p)
	}
}

// P10.2: a child that isn't a node is refused: one that wasn't given yet, one that is greater than a handle may be, and both; and that ahead of the other child's level.
func TestNoNode(t *testing.T) {
	s, p := store(t, 3, 20)
	none := append([]api.Handle{2, 3, 4, 1<<28 - 1}, great...)
	for range 3 {
		for _, h := range none {
			if p.is(h) {
				continue
			}
			for level := range 3 {
				for _, k := range []triple{{level, h, 0}, {level, 1, h}, {level, h, h}, {level, h, p.never()}} {
					if got, err := s.Mk(k.level, k.low, k.high); got != 0 || err != api.ErrNode {
						t.Fatalf("Mk%v: %d, %v", k, got, err)
					}
				}
				// A node of level 0 lies deeper than no level: its error comes behind.
				for top := range p.made {
					mk(t, s, p, level, top, h)
					mk(t, s, p, level, h, top)
				}
			}
		}
		expect(t, s, p)
		mk(t, s, p, 0, api.Handle(len(p.made)&1), 1-api.Handle(len(p.made)&1))
	}
}

// P10.2: both children lie deeper than their parent, by one or by more; at the same level or above it is refused, low or high, with itself too, and that ahead of what both children alike would tell.
func TestDeeper(t *testing.T) {
	for vars := 1; vars <= api.MaxVars; vars++ {
		s, p := store(t, vars, 1000)
		on := []api.Handle{0, 1}
		for level := range vars {
			on = append(on, mk(t, s, p, level, 0, 1))
		}
		for level := range vars {
			for _, low := range on {
				for _, high := range on {
					want := api.OK
					if s.Level(low) <= level || s.Level(high) <= level {
						want = api.ErrLevel
					}
					if got := p.refuses(triple{level, low, high}); got != want {
						t.Fatalf("(%d, %d, %d) is refused by %v, want %v", level, low, high, got, want)
					}
					mk(t, s, p, level, low, high)
				}
			}
		}
		expect(t, s, p)
	}
}

// P10.2: where both children are the same the answer is that child: nothing is made of it, at whatever level above it, be it a constant or an inner node.
func TestAlike(t *testing.T) {
	s, p := store(t, 4, 9)
	a := mk(t, s, p, 3, 1, 0)
	b := mk(t, s, p, 2, a, 1)
	for level := range 4 {
		for _, h := range []api.Handle{0, 1, a, b} {
			if s.Level(h) <= level {
				continue
			}
			if got, err := s.Mk(level, h, h); got != h || err != api.OK {
				t.Errorf("Mk(%d, %d, %d): %d, %v", level, h, h, got, err)
			}
		}
	}
	if s.Len() != 2 {
		t.Errorf("Len %d of two nodes", s.Len())
	}
	expect(t, s, p)
}

// P10.2: low and high are told apart, and so are levels.
func TestUnlike(t *testing.T) {
	s, p := store(t, 3, 20)
	a, b := mk(t, s, p, 2, 0, 1), mk(t, s, p, 2, 1, 0)
	l := []api.Handle{a, b, mk(t, s, p, 1, 0, 1), mk(t, s, p, 1, 1, 0), mk(t, s, p, 0, 0, 1), mk(t, s, p, 1, a, b), mk(t, s, p, 1, b, a), mk(t, s, p, 0, a, b), mk(t, s, p, 0, b, a), mk(t, s, p, 0, a, 1), mk(t, s, p, 0, 1, a)}
	slices.Sort(l)
	if len(slices.Compact(slices.Clone(l))) != len(l) || !slices.Equal(s.All(), l) {
		t.Errorf("handles %v, All %v", l, s.All())
	}
	expect(t, s, p)
}

// P10.2: a node that is there is told again: at once, and behind so many others that no cache holds it any more.
func TestAgain(t *testing.T) {
	s, p := store(t, 8, 4*api.MaxLines)
	a := mk(t, s, p, 7, 0, 1)
	b := mk(t, s, p, 0, a, 1)
	fill(t, s, p, 3*api.MaxLines)
	for range 2 {
		if got, err := s.Mk(7, 0, 1); got != a || err != api.OK {
			t.Fatalf("Mk(7, 0, 1): %d, %v, but it was %d", got, err, a)
		}
		if got, err := s.Mk(0, a, 1); got != b || err != api.OK {
			t.Fatalf("Mk(0, %d, 1): %d, %v, but it was %d", a, got, err, b)
		}
	}
	for k, h := range p.has {
		if got, err := s.Mk(k.level, k.low, k.high); got != h || err != api.OK {
			t.Fatalf("Mk%v: %d, %v, but it was %d", k, got, err, h)
		}
	}
	expect(t, s, p)
}

// P10.2: a store that is full tells what is there and what both children alike are, refuses what would be new, and is no other one behind it; the errors of level and children come ahead.
func TestFull(t *testing.T) {
	for _, room := range []int{1, 2, 3, 4, 5, 7, 8, 63, 64, 65, 250} {
		s, p := store(t, 4, room)
		fill(t, s, p, room)
		for range 2 {
			for level := -1; level <= 4; level++ {
				asked := append([]api.Handle{0, 1, p.never(), math.MaxUint32}, p.all()[:min(room, 20)]...)
				for _, low := range asked {
					for _, high := range asked {
						mk(t, s, p, level, low, high)
					}
				}
			}
			expect(t, s, p)
		}
		for k, h := range p.has {
			if mk(t, s, p, k.level, k.low, k.high) != h {
				t.Fatalf("%v of a full store", k)
			}
		}
	}
}

// P10.2: a store of room for one.
func TestRoomForOne(t *testing.T) {
	s, p := store(t, 2, 1)
	a, err := s.Mk(1, 0, 1)
	if a < 2 || err != api.OK || s.Len() != 1 || !slices.Equal(s.All(), []api.Handle{a}) {
		t.Fatalf("Mk(1, 0, 1): %d, %v, All %v", a, err, s.All())
	}
	p.has[triple{1, 0, 1}], p.made[a] = a, triple{1, 0, 1}
	for _, c := range []struct {
		k    triple
		h    api.Handle
		want api.Errno
	}{
		{triple{1, 1, 0}, 0, api.ErrFull},
		{triple{0, 0, 1}, 0, api.ErrFull},
		{triple{0, a, 1}, 0, api.ErrFull},
		{triple{0, a, a}, a, api.OK},
		{triple{0, 1, 1}, 1, api.OK},
		{triple{1, 0, 0}, 0, api.OK},
		{triple{1, 0, 1}, a, api.OK},
		{triple{1, a, 1}, 0, api.ErrLevel},
		{triple{0, a + 1, 1}, 0, api.ErrNode},
		{triple{2, 0, 1}, 0, api.ErrVar},
	} {
		for range 2 {
			if h, err := s.Mk(c.k.level, c.k.low, c.k.high); h != c.h || err != c.want {
				t.Errorf("Mk%v: %d, %v, want %d, %v", c.k, h, err, c.h, c.want)
			}
		}
	}
	expect(t, s, p)
}

// P10.2: a store of the greatest room takes that many, and each of them is told again.
func TestGreatestRoom(t *testing.T) {
	s, p := store(t, api.MaxVars, api.MaxSlots)
	fill(t, s, p, api.MaxSlots)
	expect(t, s, p)
	for k := range p.has {
		mk(t, s, p, k.level, k.low, k.high)
	}
	refused := 0
	for h := range p.made {
		if k := (triple{0, h, 1}); p.refuses(k) == api.ErrFull {
			mk(t, s, p, k.level, k.low, k.high)
			if refused++; refused == 100 {
				break
			}
		}
	}
	if refused == 0 {
		t.Error("nothing is refused")
	}
	expect(t, s, p)
}

// spoil overwrites a list, and the spare room behind it.
func spoil(l []api.Handle) {
	l = l[:cap(l)]
	for i := range l {
		l[i] = math.MaxUint32
	}
}

// P10.2, and DOC.md's rule 3: All is new memory whenever it is asked, of an empty store, of one that is being filled, and of a full one.
func TestAllIsNew(t *testing.T) {
	s, p := store(t, 3, 30)
	for n := range 31 {
		fill(t, s, p, n)
		kept, want := s.All(), p.all()
		spoil(s.All())
		expect(t, s, p)
		if !slices.Equal(kept, want) || !slices.IsSorted(kept) || len(kept) != n {
			t.Fatalf("All %v, want %v", kept, want)
		}
		if n < 30 {
			fill(t, s, p, n+1)
		}
		if !slices.Equal(kept, want) {
			t.Fatalf("an earlier All is %v behind Mk, it was %v", kept, want)
		}
	}
}

// steps makes drawn calls of Mk; now and again the cache is switched as hold tells. What was answered, in order.
func steps(t *testing.T, s *nodes.Store, p *plain, d draw, calls int, hold func(i int)) []api.Handle {
	t.Helper()
	known := append([]api.Handle{0, 1}, p.all()...)
	var answers []api.Handle
	for i := range calls {
		hold(i)
		low, high := known[d.next(len(known))], known[d.next(len(known))]
		if d.next(4) == 0 {
			low, high = api.Handle(d.next(2)), known[d.next(min(len(known), 12))]
		}
		level := min(s.Level(low), s.Level(high)) - 1 - d.next(2)
		switch d.next(40) {
		case 0:
			level = d.next(p.vars+2) - 1
		case 1:
			low = p.never() + api.Handle(d.next(3))
		case 2:
			high = great[d.next(len(great))]
		case 3:
			high = low
		}
		n := len(p.made)
		h := mk(t, s, p, level, low, high)
		if len(p.made) > n {
			known = append(known, h)
		}
		answers = append(answers, h)
	}
	expect(t, s, p)
	return answers
}

// P10.2: long drawn rows of calls, told apart from a plain list by nothing, in stores of few and of many variables, that get full and that don't.
func TestRows(t *testing.T) {
	for seed, c := range []struct{ vars, room, calls int }{{1, 1, 50}, {1, 2, 50}, {2, 5, 300}, {2, 14, 400}, {3, 100, 4000}, {3, 300, 8000}, {5, 40, 3000}, {8, 17, 2000}, {8, 1500, 20000}, {8, api.MaxSlots, 30000}} {
		s, p := store(t, c.vars, c.room)
		steps(t, s, p, draw(seed+1), c.calls, func(int) {})
		steps(t, s, p, draw(seed+100), c.calls, func(int) {})
	}
}

// P10.2: with the cache or without, or switched as one likes, told the same thing twice too: the same answers, and the same store.
func TestCached(t *testing.T) {
	for seed, c := range []struct{ vars, room int }{{1, 2}, {2, 9}, {4, 60}, {8, 2500}} {
		var first []api.Handle
		var all []api.Handle
		for way := range 6 {
			s, p := store(t, c.vars, c.room)
			d := draw(way)
			got := steps(t, s, p, draw(seed+7), 6000, func(i int) {
				switch {
				case way == 1 && i == 0:
					s.Cached(false)
				case way == 2:
					s.Cached(i%2 == 0)
				case way == 3:
					s.Cached(i/50%2 == 1)
				case way == 4 && i == 3000:
					s.Cached(true)
					s.Cached(true)
				case way == 5:
					s.Cached(d.next(3) == 0)
				}
			})
			if way == 0 {
				first, all = got, s.All()
			}
			if !slices.Equal(got, first) || !slices.Equal(s.All(), all) {
				t.Fatalf("way %d: other answers", way)
			}
		}
	}
}

// P10.2: switching the cache changes nothing by itself.
func TestCachedAlone(t *testing.T) {
	s, p := store(t, 3, 20)
	for _, on := range []bool{false, false, true, false, true, true} {
		s.Cached(on)
		expect(t, s, p)
		fill(t, s, p, len(p.made)+3)
		s.Cached(on)
		for k := range p.has {
			mk(t, s, p, k.level, k.low, k.high)
		}
		expect(t, s, p)
	}
}

// retain has s hold those nodes alone that are of l, or are reached from these, and has p hold them; l may have others beside them. It fails unless so many are told to be gone.
func retain(t *testing.T, s *nodes.Store, p *plain, l []api.Handle) {
	t.Helper()
	was := len(p.made)
	stay := empty(p.vars, p.room)
	stay.order = p.order
	var down func(h api.Handle)
	down = func(h api.Handle) {
		if k, there := p.made[h]; there {
			stay.has[k], stay.made[h], stay.funcs[h] = h, k, p.funcs[h]
			down(k.low)
			down(k.high)
		}
	}
	for _, h := range l {
		down(h)
	}
	*p = *stay
	l = append(slices.Clone(l), p.all()...)
	given := slices.Clone(l)
	if n := s.Retain(l); n != was-len(p.made) {
		t.Fatalf("Retain(%d): %d gone, want %d", l, n, was-len(p.made))
	}
	if !slices.Equal(l, given) {
		t.Fatalf("the list %d is %d behind Retain", given, l)
	}
	expect(t, s, p)
}

// kept fails unless s, behind calls that looked for all its nodes, holds no more handles than it has room for, and a name of each node.
func kept(t *testing.T, s *nodes.Store, p *plain) {
	t.Helper()
	handles, names := s.Kept()
	if handles > p.room || names != len(p.made) && len(p.made) > 0 {
		t.Fatalf("%d handles and %d names are held of %d nodes, in room for %d", handles, names, len(p.made), p.room)
	}
}

// P10.2: behind Retain, which layer 17 calls, a store tells of what stays what it told, by the same handles, and of what went that it is none; it has room for what went, and gives it handles that nobody has. What isn't an inner node counts for nothing.
func TestRetain(t *testing.T) {
	for seed, c := range []struct{ vars, room int }{{1, 1}, {1, 2}, {2, 5}, {2, 14}, {3, 100}, {5, 40}, {8, 700}} {
		for way := range 3 {
			s, p := store(t, c.vars, c.room)
			d := draw(10*seed + way)
			s.Cached(way == 0)
			for round := range 20 {
				steps(t, s, p, draw(100*seed+round), c.room, func(i int) {
					if way == 2 {
						s.Cached(i/7%2 == 0)
					}
				})
				once(t, s)
				l := slices.Clone(great)
				for _, h := range append([]api.Handle{0, 1, 1, 0}, p.all()...) {
					if d.next(1+round) == 0 {
						l = append(l, h, 1<<20, h)
					}
				}
				retain(t, s, p, l)
				for k, h := range p.has {
					if got := mk(t, s, p, k.level, k.low, k.high); got != h {
						t.Fatalf("Mk%v of what stays: %d, but it was %d", k, got, h)
					}
				}
				kept(t, s, p)
				once(t, s)
			}
			retain(t, s, p, nil)
		}
	}
}

// P10.1, P10.4: behind Relay, which layer 18 calls, a store has the order that it was given, keeping no part of that, and each handle is the node that it was given: Mk tells these handles, and gives others to new nodes, with the cache on and off, whether Retain comes in between or not.
func TestRelay(t *testing.T) {
	for way := range 4 {
		s, p := store(t, 3, 7)
		s.Cached(way%2 == 0)
		deep := mk(t, s, p, 2, 0, 1)
		lower := mk(t, s, p, 1, 0, 1)
		upper := mk(t, s, p, 0, 0, 1)
		both := mk(t, s, p, 0, lower, deep)
		made := both + 3 // the two below it are no nodes
		o := s.Order()
		o.Swap(0)
		s.Relay(o, map[api.Handle]nodes.Node{
			lower: {Level: 0, Low: 0, High: 1},
			upper: {Level: 1, Low: 0, High: 1},
			made:  {Level: 1, Low: 1, High: deep},
			both:  {Level: 0, Low: made, High: upper},
		})
		o.Swap(1)
		q := empty(3, 7)
		q.order = []int{1, 0, 2}
		for h, k := range map[api.Handle]triple{deep: {2, 0, 1}, lower: {0, 0, 1}, upper: {1, 0, 1}, made: {1, 1, deep}, both: {0, made, upper}} {
			q.has[k], q.made[h], q.funcs[h] = h, k, function(s, h)
		}
		expect(t, s, q)
		if way/2 == 0 {
			retain(t, s, q, q.all())
		}
		for range 2 {
			for k := range q.has {
				mk(t, s, q, k.level, k.low, k.high)
			}
			mk(t, s, q, 0, lower, deep)
			mk(t, s, q, 0, 1, made)
			kept(t, s, q)
		}
		mk(t, s, q, 2, 1, 0)
		mk(t, s, q, 0, 1, 0)
		expect(t, s, q)
		once(t, s)
	}
}

// P10.3: a node is, at its level's variable, its high where that is true, else its low, at all assignments.
func TestFunctions(t *testing.T) {
	for seed, c := range []struct{ vars, room int }{{1, 2}, {2, 14}, {3, 200}, {5, 400}, {8, 600}} {
		s, p := store(t, c.vars, c.room)
		steps(t, s, p, draw(seed+3), 6*c.room, func(int) {})
		for _, h := range append([]api.Handle{0, 1}, s.All()...) {
			if got := function(s, h); got != p.funcs[h] {
				t.Fatalf("node %d is %x, want %x", h, got, p.funcs[h])
			}
			v := s.Order().Var(s.Level(h))
			if h > 1 && function(s, h) != joined(v, function(s, s.Low(h)), function(s, s.High(h))) {
				t.Fatalf("node %d isn't joined of its low and its high", h)
			}
		}
	}
}

// P10.3: the variables themselves and their opposites.
func TestVariables(t *testing.T) {
	for vars := 1; vars <= api.MaxVars; vars++ {
		s, p := store(t, vars, 2*vars)
		for v := range vars {
			is, isnt := mk(t, s, p, v, 0, 1), mk(t, s, p, v, 1, 0)
			for x := range 256 {
				if on := x>>v&1 == 1; value(s, is, x) != on || value(s, isnt, x) == on {
					t.Fatalf("variable %d at %d: %v, its opposite %v", v, x, value(s, is, x), value(s, isnt, x))
				}
			}
		}
	}
}

// once fails unless no two nodes of s are of one level, low and high, or of one function, and none has low and high alike.
func once(t *testing.T, s *nodes.Store) {
	t.Helper()
	triples, funcs := map[triple]api.Handle{}, map[api.Func]api.Handle{}
	for _, h := range append([]api.Handle{0, 1}, s.All()...) {
		f := function(s, h)
		if other, there := funcs[f]; there {
			t.Fatalf("nodes %d and %d are one function", other, h)
		}
		funcs[f] = h
		if h < 2 {
			continue
		}
		k := triple{s.Level(h), s.Low(h), s.High(h)}
		if other, there := triples[k]; there || k.low == k.high {
			t.Fatalf("node %d is %v, and so is %d", h, k, other)
		}
		triples[k] = h
	}
}

// P10.4: of up to three variables there is one node for each function, whatever way it is asked for, and no more.
func TestEachFunctionOnce(t *testing.T) {
	for vars := 1; vars <= 3; vars++ {
		functions := 1 << (1 << vars)
		s, p := store(t, vars, functions)
		for range 2 {
			fillAll(t, s, p)
			once(t, s)
			if s.Len() != functions-2 {
				t.Fatalf("%d variables: %d inner nodes, want %d", vars, s.Len(), functions-2)
			}
		}
		expect(t, s, p)
	}
}

// fillAll asks for a node of each two children at each level.
func fillAll(t *testing.T, s *nodes.Store, p *plain) {
	t.Helper()
	for level := p.vars - 1; level >= 0; level-- {
		known := append([]api.Handle{0, 1}, s.All()...)
		for _, low := range known {
			for _, high := range known {
				mk(t, s, p, level, low, high)
			}
		}
	}
}

// P10.4: in drawn rows too, with the cache and without, of stores that are full and that aren't.
func TestOnce(t *testing.T) {
	for seed, c := range []struct{ vars, room int }{{2, 14}, {4, 30}, {6, 500}, {8, 900}} {
		s, p := store(t, c.vars, c.room)
		for part := range 4 {
			s.Cached(part%2 == 0)
			steps(t, s, p, draw(seed+9+part), 2*c.room, func(int) {})
			once(t, s)
		}
	}
}

// DOC.md's rule 6: stores don't know of one another: their handles, rooms, orders and caches are their own.
func TestTwoStores(t *testing.T) {
	s, p := store(t, 3, 10)
	o, q := store(t, 5, 40)
	a := mk(t, s, p, 2, 0, 1)
	expect(t, o, q)
	for _, h := range []api.Handle{a, a + 1} {
		mk(t, o, q, 0, h, 1)
	}
	for i := range 12 {
		level := i % 3
		mk(t, s, p, level, api.Handle(i/3&1), 1-api.Handle(i/3&1))
		mk(t, o, q, 4-level, 1-api.Handle(i/6&1), api.Handle(i/6&1))
		s.Cached(i%2 == 0)
	}
	fill(t, s, p, 10)
	fill(t, o, q, 40)
	mk(t, s, p, 0, a, 0)
	expect(t, s, p)
	expect(t, o, q)
}

// DOC.md's rule 6: the same calls, the same handles.
func TestSameAgain(t *testing.T) {
	s, p := store(t, 6, 700)
	o, q := store(t, 6, 700)
	if !slices.Equal(steps(t, s, p, 5, 4000, func(int) {}), steps(t, o, q, 5, 4000, func(int) {})) {
		t.Error("other answers to the same calls")
	}
}
