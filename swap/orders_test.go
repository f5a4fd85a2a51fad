package swap_test

// The tests of the layers between nodes and this one in other orders than the first. They stand here because it is this layer that gives a store another order.

import (
	"slices"
	"testing"

	"spinney/api"
	"spinney/build"
	"spinney/compose"
	"spinney/count"
	"spinney/logic"
	"spinney/mark"
	"spinney/nodes"
	"spinney/quant"
	"spinney/refs"
	"spinney/rel"
	"spinney/swap"
	"spinney/truth"
)

// orders are all orders of so many variables.
func orders(vars int) [][]int {
	if vars == 0 {
		return [][]int{nil}
	}
	var l [][]int
	for _, o := range orders(vars - 1) {
		for at := range vars {
			l = append(l, slices.Insert(slices.Clone(o), at, vars-1))
		}
	}
	return l
}

// someOrders are all orders of up to four variables, and drawn ones of five to eight, with the first one the other way round.
func someOrders() [][]int {
	var l [][]int
	for vars := 1; vars <= 4; vars++ {
		l = append(l, orders(vars)...)
	}
	d := draw(11)
	for vars := 5; vars <= api.MaxVars; vars++ {
		o := orders(vars)[0]
		slices.Sort(o)
		slices.Reverse(o)
		l = append(l, slices.Clone(o))
		for range 4 {
			for i := range o {
				j := d.next(i + 1)
				o[i], o[j] = o[j], o[i]
			}
			l = append(l, slices.Clone(o))
		}
	}
	return l
}

// ordered makes a store of that order.
func ordered(t *testing.T, order []int, room int) *nodes.Store {
	t.Helper()
	s := store(t, len(order), room)
	if _, err := swap.To(s, order); err != api.OK || !slices.Equal(s.Order().All(), order) {
		t.Fatalf("To(%v): %v, the order is %v", order, err, s.Order().All())
	}
	return s
}

// drawn is a function of so many variables.
func drawn(d *draw, vars int) api.Func {
	var f api.Func
	for x := range 1 << vars {
		f[x/64] |= uint64(d.next(2)) << (x % 64)
	}
	return truth.Restrict(f, uint8(255<<vars), 0)
}

// lay makes the nodes of f, from that level on.
func lay(t *testing.T, s *nodes.Store, f api.Func, level int) api.Handle {
	t.Helper()
	if level == s.Vars() {
		return api.Handle(f[0] & 1)
	}
	v := s.Order().Var(level)
	h, err := s.Mk(level, lay(t, s, truth.Fix(f, v, false), level+1), lay(t, s, truth.Fix(f, v, true), level+1))
	if err != api.OK {
		t.Fatalf("no room for %x: %v", f, err)
	}
	return h
}

// made fails unless the answer is the node of want, and s holds the nodes of those of l and of want, and no others; ErrFull, if there isn't room for them.
func made(t *testing.T, s *nodes.Store, l []api.Func, want api.Func, h api.Handle, err api.Errno) {
	t.Helper()
	order := s.Order().All()
	need := truth.Size(append([]api.Func{want}, l...), order)
	switch {
	case need > s.Room():
		if h != 0 || err != api.ErrFull {
			t.Fatalf("order %v: %d, %v without room", order, h, err)
		}
	case err != api.OK || function(s, h) != want:
		t.Fatalf("order %v: %d, %v: %x, want %x", order, h, err, function(s, h), want)
	case s.Len() != need:
		t.Fatalf("order %v: %d nodes, want %d", order, s.Len(), need)
	}
}

// P11.1, P11.2: a variable lies where the order tells; of no variable ErrVar.
func TestVarInOrders(t *testing.T) {
	for _, order := range someOrders() {
		s := ordered(t, order, len(order))
		var l []api.Func
		for v := range order {
			h, err := logic.Var(s, v)
			made(t, s, l, truth.Var(v), h, err)
			if s.Level(h) != slices.Index(order, v) || s.Low(h) != 0 || s.High(h) != 1 {
				t.Fatalf("order %v: Var(%d) lies at %d", order, v, s.Level(h))
			}
			l = append(l, truth.Var(v))
		}
		for _, v := range []int{-1, len(order), api.MaxVars} {
			if h, err := logic.Var(s, v); h != 0 || err != api.ErrVar {
				t.Errorf("order %v: Var(%d): %d, %v", order, v, h, err)
			}
		}
	}
}

// P11.1, P11.2, P11.3: in every order the answers mean the same, and the nodes that are made are the answer's in that order; in room for just these, in one less, and in much.
func TestLogicInOrders(t *testing.T) {
	for i, order := range someOrders() {
		d := draw(i)
		l := []api.Func{drawn(&d, len(order)), drawn(&d, len(order)), drawn(&d, len(order))}
		for _, o := range []struct {
			do   func(s *nodes.Store, a, b, c api.Handle) (api.Handle, api.Errno)
			want api.Func
		}{
			{func(s *nodes.Store, a, _, _ api.Handle) (api.Handle, api.Errno) { return logic.Not(s, a) }, truth.Not(l[0])},
			{func(s *nodes.Store, a, b, _ api.Handle) (api.Handle, api.Errno) { return logic.And(s, a, b) }, truth.And(l[0], l[1])},
			{func(s *nodes.Store, a, b, _ api.Handle) (api.Handle, api.Errno) { return logic.Or(s, a, b) }, truth.Or(l[0], l[1])},
			{func(s *nodes.Store, a, b, _ api.Handle) (api.Handle, api.Errno) { return logic.Xor(s, a, b) }, truth.Xor(l[0], l[1])},
			{logic.Ite, truth.Ite(l[0], l[1], l[2])},
		} {
			have, need := truth.Size(l, order), truth.Size(append([]api.Func{o.want}, l...), order)
			for _, room := range []int{need - 1, need, 3000} {
				if room < max(have, 1) {
					continue
				}
				s := ordered(t, order, room)
				s.Cached(i%2 == 0)
				a, b, c := lay(t, s, l[0], 0), lay(t, s, l[1], 0), lay(t, s, l[2], 0)
				for range 2 {
					h, err := o.do(s, a, b, c)
					made(t, s, l, o.want, h, err)
				}
			}
		}
	}
}

// quantCall is a call of layer 12, and what it means.
type quantCall struct {
	do    func(s *nodes.Store, a api.Handle, mask, vals uint8) (api.Handle, api.Errno)
	means func(f api.Func, mask, vals uint8) api.Func
}

func quants() []quantCall {
	return []quantCall{
		{
			func(s *nodes.Store, a api.Handle, mask, _ uint8) (api.Handle, api.Errno) {
				return quant.Exists(s, a, mask)
			},
			func(f api.Func, mask, _ uint8) api.Func { return truth.Exists(f, mask) },
		},
		{
			func(s *nodes.Store, a api.Handle, mask, _ uint8) (api.Handle, api.Errno) {
				return quant.Forall(s, a, mask)
			},
			func(f api.Func, mask, _ uint8) api.Func { return truth.Forall(f, mask) },
		},
		{quant.Restrict, truth.Restrict},
	}
}

// answers fails unless h is the node of want, or the call was refused in a store that is full, which a great one is not to be; the argument is the node of f still.
func answers(t *testing.T, s *nodes.Store, a api.Handle, f, want api.Func, h api.Handle, err api.Errno) {
	t.Helper()
	order := s.Order().All()
	switch {
	case err == api.ErrFull && h == 0 && s.Len() == s.Room() && s.Room() < 3000:
	case err != api.OK || function(s, h) != want:
		t.Fatalf("order %v: %d, %v: %x, want %x, %d nodes in room for %d", order, h, err, function(s, h), want, s.Len(), s.Room())
	}
	if function(s, a) != f {
		t.Fatalf("order %v: the argument is another one", order)
	}
}

// P12.1: in every order a mask means variables, wherever they lie, and so do vals: by all masks, in room for just the argument and the answer, in one less, and in much.
func TestQuantInOrders(t *testing.T) {
	for i, order := range someOrders() {
		d := draw(i + 60)
		f := drawn(&d, len(order))
		for m := range 1 << len(order) {
			if len(order) > 4 && d.next(8) > 0 {
				continue
			}
			mask, vals := uint8(m), uint8(d.next(256))
			for _, o := range quants() {
				want := o.means(f, mask, vals)
				have, need := truth.Size([]api.Func{f}, order), truth.Size([]api.Func{f, want}, order)
				for _, room := range []int{need - 1, need, 3000} {
					if room < max(have, 1) {
						continue
					}
					s := ordered(t, order, room)
					s.Cached(i%2 == 0)
					a := lay(t, s, f, 0)
					for range 2 {
						h, err := o.do(s, a, mask, vals)
						answers(t, s, a, f, want, h, err)
					}
				}
			}
		}
	}
}

// P12.1: in every order a variable's node by its own variable is a constant, by the others itself; a mask that has a variable from Vars on is refused.
func TestQuantOfVariablesInOrders(t *testing.T) {
	for _, order := range someOrders() {
		s := ordered(t, order, len(order))
		for v := range order {
			a, _ := logic.Var(s, v)
			for w := range api.MaxVars {
				want, wantErr := []api.Handle{a, a, a}, api.OK
				switch {
				case w >= len(order):
					want, wantErr = []api.Handle{0, 0, 0}, api.ErrVar
				case w == v:
					want = []api.Handle{1, 0, 1}
				}
				for i, o := range quants() {
					if h, err := o.do(s, a, 1<<w, 1<<v); h != want[i] || err != wantErr {
						t.Fatalf("order %v: call %d of variable %d by %d: %d, %v, want %d, %v", order, i, v, w, h, err, want[i], wantErr)
					}
				}
			}
		}
	}
}

// P12.2: in every order Forall is not exists not.
func TestForallInOrders(t *testing.T) {
	for i, order := range someOrders() {
		d := draw(i + 90)
		s := ordered(t, order, api.MaxSlots)
		a := lay(t, s, drawn(&d, len(order)), 0)
		for range 8 {
			mask := uint8(d.next(1 << len(order)))
			forall, first := quant.Forall(s, a, mask)
			not, second := logic.Not(s, a)
			exists, third := quant.Exists(s, not, mask)
			again, fourth := logic.Not(s, exists)
			if forall != again || first+second+third+fourth != api.OK {
				t.Fatalf("order %v: Forall(%d, %x): %d, not exists not %d (%v, %v, %v, %v)", order, a, mask, forall, again, first, second, third, fourth)
			}
		}
	}
}

// within is, at x, what f is where each variable v is as g[v] is at x, by each assignment.
func within(f api.Func, g []api.Func) api.Func {
	var is api.Func
	for x := range 256 {
		y := uint8(x)
		for v := range g {
			y &^= 1 << v
			if truth.Eval(g[v], uint8(x)) {
				y |= 1 << v
			}
		}
		if truth.Eval(f, y) {
			is[x/64] |= 1 << (x % 64)
		}
	}
	return is
}

// P13.1: in every order v means a variable, wherever it lies: at all variables, in room for just the arguments and the answer, in one less, and in much; a number from Vars on is refused.
func TestComposeInOrders(t *testing.T) {
	for i, order := range someOrders() {
		d := draw(i + 120)
		f, g := drawn(&d, len(order)), drawn(&d, len(order))
		for v := range order {
			want := truth.Compose(f, v, g)
			have, need := truth.Size([]api.Func{f, g}, order), truth.Size([]api.Func{f, g, want}, order)
			for _, room := range []int{need - 1, need, 3000} {
				if room < max(have, 1) {
					continue
				}
				s := ordered(t, order, room)
				s.Cached(i%2 == 0)
				a, b := lay(t, s, f, 0), lay(t, s, g, 0)
				for range 2 {
					h, err := compose.Compose(s, a, v, b)
					answers(t, s, a, f, want, h, err)
					answers(t, s, b, g, want, h, err)
				}
				for _, none := range []int{-1, len(order), api.MaxVars} {
					if h, err := compose.Compose(s, a, none, b); h != 0 || err != api.ErrVar {
						t.Fatalf("order %v: Compose at %d: %d, %v", order, none, h, err)
					}
				}
			}
		}
	}
}

// P13.2: in every order the places of a list are variables', not levels', in Subst and in Rename, and so is what Rename's list names.
func TestSubstInOrders(t *testing.T) {
	for i, order := range someOrders() {
		for round := range 4 {
			d := draw(10*i + round)
			f := drawn(&d, len(order))
			var g, named []api.Func
			var to []int
			for range order {
				g, to = append(g, drawn(&d, len(order))), append(to, d.next(len(order)))
				named = append(named, truth.Var(to[len(to)-1]))
			}
			subst, rename := within(f, g), within(f, named)
			for _, room := range []int{truth.Size(append([]api.Func{f, subst, rename}, g...), order), 3000} {
				s := ordered(t, order, max(room, 1))
				s.Cached(round%2 == 0)
				var l []api.Handle
				for _, other := range g {
					l = append(l, lay(t, s, other, 0))
				}
				a := lay(t, s, f, 0)
				for range 2 {
					h, err := compose.Subst(s, a, l)
					answers(t, s, a, f, subst, h, err)
					h, err = compose.Rename(s, a, to)
					answers(t, s, a, f, rename, h, err)
				}
			}
		}
	}
}

// P13.3: in every order what is renamed to and fro is itself.
func TestRenameInOrders(t *testing.T) {
	for i, order := range someOrders() {
		d := draw(i + 150)
		s := ordered(t, order, api.MaxSlots)
		a := lay(t, s, drawn(&d, len(order)), 0)
		for range 8 {
			to, fro := slices.Clone(order), make([]int, len(order))
			for i := range to {
				j := d.next(i + 1)
				to[i], to[j] = to[j], to[i]
			}
			for v, w := range to {
				fro[w] = v
			}
			there, first := compose.Rename(s, a, to)
			again, second := compose.Rename(s, there, fro)
			if again != a || first != api.OK || second != api.OK {
				t.Fatalf("order %v: %d renamed to %v is %d, and back %d (%v, %v)", order, a, to, there, again, first, second)
			}
		}
	}
}

// counts fails unless layer 14 tells of h, the node of f, what truth tells of f.
func counts(t *testing.T, s *nodes.Store, h api.Handle, f api.Func) {
	t.Helper()
	order, before := s.Order().All(), s.Len()
	many := uint64(truth.Count(f) >> (api.MaxVars - s.Vars()))
	if n, err := count.Count(s, h); n != many || err != api.OK {
		t.Fatalf("order %v: Count: %d, %v, want %d", order, n, err, many)
	}
	if mask, err := count.Support(s, h); mask != truth.Support(f) || err != api.OK {
		t.Fatalf("order %v: Support: %x, %v, want %x", order, mask, err, truth.Support(f))
	}
	least, some := truth.One(f)
	if x, ok, err := count.One(s, h); x != least || ok != some || err != api.OK {
		t.Fatalf("order %v: One: %d, %t, %v, want %d, %t", order, x, ok, err, least, some)
	}
	for x := range 256 {
		if is, err := count.Eval(s, h, uint8(x)); is != truth.Eval(f, uint8(x)) || err != api.OK {
			t.Fatalf("order %v: Eval at %d: %t, %v", order, x, is, err)
		}
	}
	if s.Len() != before {
		t.Fatalf("order %v: %d nodes, there were %d", order, s.Len(), before)
	}
}

// P14.1: in every order the answers are by variables, wherever they lie: all functions of up to three variables, drawn ones of more, among them such as hang on some variables alone.
func TestCountInOrders(t *testing.T) {
	for i, order := range someOrders() {
		s := ordered(t, order, api.MaxSlots)
		s.Cached(i%2 == 0)
		if len(order) <= 3 {
			for n := range uint64(1) << (1 << len(order)) {
				f := truth.Restrict(api.Func{n}, uint8(255<<len(order)), 0)
				counts(t, s, lay(t, s, f, 0), f)
			}
			continue
		}
		d := draw(i + 180)
		for range 20 {
			f, mask := drawn(&d, len(order)), uint8(d.next(256))
			few := truth.Restrict(f, mask, uint8(d.next(256)))
			// Seldom true, so that the least assignment lies anywhere.
			seldom := truth.And(truth.And(f, drawn(&d, len(order))), truth.And(drawn(&d, len(order)), drawn(&d, len(order))))
			for _, g := range []api.Func{f, few, seldom, truth.Not(seldom)} {
				counts(t, s, lay(t, s, g, 0), g)
			}
		}
	}
}

// P14.1: in every order each assignment is the least one of the function that is true there alone, and of that which is true from there on.
func TestOneInOrders(t *testing.T) {
	for _, order := range someOrders() {
		s := ordered(t, order, api.MaxSlots)
		for x := range 1 << len(order) {
			var alone, from api.Func
			for y := x; y < 1<<len(order); y++ {
				from[y/64] |= 1 << (y % 64)
			}
			alone[x/64] = 1 << (x % 64)
			for _, f := range []api.Func{alone, from} {
				h := lay(t, s, truth.Restrict(f, uint8(255<<len(order)), 0), 0)
				if one, ok, err := count.One(s, h); int(one) != x || !ok || err != api.OK {
					t.Fatalf("order %v: One: %d, %t, %v, want %d", order, one, ok, err, x)
				}
			}
		}
	}
}

// P14.2, P14.3: in every order Size is truth's Size under it, and a level has as many nodes as there are unlike functions that hang on its variable, and on none above.
func TestSizeInOrders(t *testing.T) {
	for i, order := range someOrders() {
		for round := range 6 {
			d := draw(20*i + round)
			s := ordered(t, order, 3000)
			// Others, which aren't to be counted.
			lay(t, s, drawn(&d, len(order)), 0)
			var l []api.Func
			var handles []api.Handle
			for range round {
				f := truth.Restrict(drawn(&d, len(order)), uint8(d.next(256)&d.next(256)), uint8(d.next(256)))
				l, handles = append(l, f), append(handles, lay(t, s, f, 0))
			}
			size, first := count.Size(s, handles)
			if size != truth.Size(l, order) || first != api.OK {
				t.Fatalf("order %v: Size: %d, %v, truth's %d", order, size, first, truth.Size(l, order))
			}
			levels, second := count.Levels(s, handles)
			if len(levels) != len(order) || second != api.OK {
				t.Fatalf("order %v: Levels: %d, %v", order, levels, second)
			}
			for level, n := range levels {
				if want := onLevel(l, order, level); n != want {
					t.Fatalf("order %v: Levels: %d, want %d at %d", order, levels, want, level)
				}
			}
		}
	}
}

// onLevel is how many unlike functions come of those of l where the variables above that level are fixed that hang on the level's own.
func onLevel(l []api.Func, order []int, level int) int {
	met := map[api.Func]bool{}
	for _, f := range l {
		for vals := range 1 << level {
			g := f
			for i, v := range order[:level] {
				g = truth.Fix(g, v, vals>>i&1 == 1)
			}
			if truth.Support(g)>>order[level]&1 == 1 {
				met[g] = true
			}
		}
	}
	return len(met)
}

// P15.1, P15.3: in every order From's node is of the table, and Func tells the table again; the nodes that are made are the answer's in that order: beside another function's, in room for just both, in one less, and in much. A variable from Vars on is refused.
func TestFromInOrders(t *testing.T) {
	for i, order := range someOrders() {
		d := draw(i + 210)
		for range 6 {
			f := drawn(&d, len(order))
			g := truth.Restrict(drawn(&d, len(order)), uint8(d.next(256)&d.next(256)), uint8(d.next(256)))
			have, need := truth.Size([]api.Func{f}, order), truth.Size([]api.Func{f, g}, order)
			for _, room := range []int{need - 1, need, 3000} {
				if room < max(have, 1) {
					continue
				}
				s := ordered(t, order, room)
				s.Cached(i%2 == 0)
				a := lay(t, s, f, 0)
				for range 2 {
					h, err := build.From(s, g)
					made(t, s, []api.Func{f}, g, h, err)
					if back, other := build.Func(s, h); err == api.OK && (back != g || other != api.OK) {
						t.Fatalf("order %v: Func: %x, %v, want %x", order, back, other, g)
					}
				}
				if back, err := build.Func(s, a); back != f || err != api.OK {
					t.Fatalf("order %v: Func: %x, %v, want %x", order, back, err, f)
				}
				for v := len(order); v < api.MaxVars; v++ {
					if h, err := build.From(s, truth.Xor(g, truth.Var(v))); h != 0 || err != api.ErrVar {
						t.Fatalf("order %v: From of what hangs on %d: %d, %v", order, v, h, err)
					}
				}
			}
		}
	}
}

// P15.1: in every order mask and vals mean variables, wherever they lie: by all masks, in room for just the cube, in one less, and in much.
func TestCubeInOrders(t *testing.T) {
	for i, order := range someOrders() {
		d := draw(i + 240)
		for m := range 256 {
			mask, vals := uint8(m), uint8(d.next(256))
			var want api.Func
			for x := range 256 {
				if uint8(x)&mask == vals&mask {
					want[x/64] |= 1 << (x % 64)
				}
			}
			need := truth.Size([]api.Func{want}, order)
			for _, room := range []int{need - 1, need, 3000} {
				if room < 1 {
					continue
				}
				s := ordered(t, order, room)
				h, err := build.Cube(s, mask, vals)
				if m>>len(order) == 0 {
					made(t, s, nil, want, h, err)
				} else if h != 0 || err != api.ErrVar || s.Len() != 0 {
					t.Fatalf("order %v: Cube(%x, %x): %d, %v", order, mask, vals, h, err)
				}
			}
		}
	}
}

// pathsOf are the paths from h to 1, those of a Low ahead of its High's; path is the way to h.
func pathsOf(s *nodes.Store, h api.Handle, path [2]uint8) [][2]uint8 {
	if h < 2 {
		return slices.Repeat([][2]uint8{path}, int(h))
	}
	bit := uint8(1) << s.Order().Var(s.Level(h))
	low, high := [2]uint8{path[0] | bit, path[1]}, [2]uint8{path[0] | bit, path[1] | bit}
	return append(pathsOf(s, s.Low(h), low), pathsOf(s, s.High(h), high)...)
}

// P15.2, P15.3: in every order the paths are told by variables, and come by levels, a Low's ahead of its High's; the or of their cubes is the node.
func TestCubesInOrders(t *testing.T) {
	for i, order := range someOrders() {
		d := draw(i + 270)
		s := ordered(t, order, api.MaxSlots)
		for range 4 {
			h := lay(t, s, truth.Restrict(drawn(&d, len(order)), uint8(d.next(256)&d.next(256)), uint8(d.next(256))), 0)
			l, err := build.Cubes(s, h)
			if want := pathsOf(s, h, [2]uint8{}); !slices.Equal(l, want) || err != api.OK {
				t.Fatalf("order %v: Cubes: %x, %v, want %x", order, l, err, want)
			}
			or := api.False
			for _, c := range l {
				one, first := build.Cube(s, c[0], c[1])
				both, second := logic.Or(s, or, one)
				if first+second != api.OK {
					t.Fatalf("order %v: Cube(%x, %x): %v, Or: %v", order, c[0], c[1], first, second)
				}
				or = both
			}
			if or != h {
				t.Fatalf("order %v: %d or-ed of its paths is %d", order, h, or)
			}
		}
	}
}

// P16.1: in every order a node fits by its variables, wherever they lie.
func TestFitsInOrders(t *testing.T) {
	for i, order := range someOrders() {
		d := draw(i + 300)
		s := ordered(t, order, api.MaxSlots)
		l := []api.Func{truth.Const(false), truth.Const(true)}
		for v := range order {
			l = append(l, truth.Var(v))
		}
		for range 4 {
			f := drawn(&d, len(order))
			l = append(l, f, truth.Restrict(f, 0xaa, uint8(d.next(256))), truth.Restrict(f, 0x55, uint8(d.next(256))))
		}
		for _, f := range l {
			if is := rel.Fits(s, lay(t, s, f, 0)); is != (truth.Support(f)&0xaa == 0) {
				t.Fatalf("order %v: Fits of what hangs on %x: %t", order, truth.Support(f), is)
			}
		}
	}
}

// relation draws some states, and a relation in which each state leads to few others, of so many variables.
func relation(d *draw, vars int) (f, g api.Func) {
	f = truth.Restrict(truth.And(drawn(d, vars), drawn(d, vars)), 0xaa, uint8(d.next(256)))
	g = drawn(d, vars)
	for range vars/2 - 1 {
		g = truth.And(g, drawn(d, vars))
	}
	return f, g
}

// P16.1: in every order current and next are the variables' names, wherever they lie: in room for just the arguments and the answer, in some more, and in much; an odd number of variables is refused.
func TestStepsInOrders(t *testing.T) {
	for i, order := range someOrders() {
		d := draw(i + 330)
		for range 6 {
			f, g := relation(&d, len(order))
			for _, o := range []struct {
				do    func(s *nodes.Store, states, rel api.Handle) (api.Handle, api.Errno)
				means func(states, rel api.Func) api.Func
			}{{rel.Next, truth.Next}, {rel.Prev, truth.Prev}} {
				want := o.means(f, g)
				need := truth.Size([]api.Func{f, g, want}, order)
				for _, room := range []int{need, need + 5, need + 20, 3000} {
					s := ordered(t, order, max(room, 1))
					s.Cached(i%2 == 0)
					a, b := lay(t, s, f, 0), lay(t, s, g, 0)
					for range 2 {
						h, err := o.do(s, a, b)
						if len(order)%2 == 1 {
							if h != 0 || err != api.ErrRel {
								t.Fatalf("order %v: %d, %v", order, h, err)
							}
							continue
						}
						answers(t, s, a, f, want, h, err)
						answers(t, s, b, g, want, h, err)
					}
				}
			}
		}
	}
}

// P16.2, P16.4: in every order what is reached is the same, as many times new, and holds all that follows from it.
func TestReachInOrders(t *testing.T) {
	longest := 0
	for i, order := range someOrders() {
		if len(order)%2 == 1 {
			continue
		}
		d := draw(i + 360)
		for range 6 {
			f, g := relation(&d, len(order))
			want, times := f, 0
			for more := truth.Or(want, truth.Next(want, g)); more != want; more = truth.Or(want, truth.Next(want, g)) {
				want, times = more, times+1
			}
			longest = max(longest, times)
			need := truth.Size([]api.Func{f, g, want}, order)
			for _, room := range []int{need, need + 5, need + 20, 3000} {
				s := ordered(t, order, max(room, 1))
				s.Cached(i%2 == 0)
				a, b := lay(t, s, f, 0), lay(t, s, g, 0)
				h, n, err := rel.Reach(s, a, b)
				answers(t, s, a, f, want, h, err)
				answers(t, s, b, g, want, h, err)
				if err == api.OK && n != times || err != api.OK && n != 0 {
					t.Fatalf("order %v: Reach: something new %d times, %v, want %d", order, n, err, times)
				}
			}
		}
	}
	if longest < 3 {
		t.Errorf("something was new %d times at most", longest)
	}
}

// P16.3: in every order the bits of states are variables', wherever they lie: each two states, in much room and in little; what is no state, and an odd number of variables, is refused.
func TestPairInOrders(t *testing.T) {
	for i, order := range someOrders() {
		d := draw(i + 390)
		for n := range 256 {
			from, to := n>>4, n&15
			if len(order) > 4 && d.next(8) > 0 {
				continue
			}
			var want api.Func
			for x := range 256 {
				is := true
				for v := range order {
					is = is && x>>v&1 == [2]int{from, to}[v%2]>>(v/2)&1
				}
				if is {
					want[x/64] |= 1 << (x % 64)
				}
			}
			for _, room := range []int{1, len(order), 2 * len(order), 3000} {
				s := ordered(t, order, room)
				h, err := rel.Pair(s, uint8(from), uint8(to))
				switch {
				case len(order)%2 == 1:
					if h != 0 || err != api.ErrRel || s.Len() != 0 {
						t.Fatalf("order %v: Pair(%d, %d): %d, %v", order, from, to, h, err)
					}
				case max(from, to) >= 1<<(len(order)/2):
					if h != 0 || err != api.ErrVar || s.Len() != 0 {
						t.Fatalf("order %v: Pair(%d, %d): %d, %v", order, from, to, h, err)
					}
				default:
					answers(t, s, 0, truth.Const(false), want, h, err)
				}
			}
		}
	}
}

// gathered draws functions, lays them beside others, and tells some of them as roots.
func gathered(t *testing.T, s *nodes.Store, d *draw, many int) ([]api.Func, []api.Handle) {
	t.Helper()
	var l []api.Func
	var roots []api.Handle
	for range many {
		lay(t, s, drawn(d, s.Vars()), 0)
		f := truth.Restrict(drawn(d, s.Vars()), uint8(d.next(256)&d.next(256)), uint8(d.next(256)))
		l, roots = append(l, f), append(roots, lay(t, s, f, 0))
	}
	return l, roots
}

// P17.1: in every order as many nodes are reached as truth's Size tells under it, rising, and of each node its own and those below it.
func TestMarkInOrders(t *testing.T) {
	for i, order := range someOrders() {
		d := draw(i + 420)
		s := ordered(t, order, 3000)
		l, roots := gathered(t, s, &d, 1+i%3)
		all, err := mark.Reach(s, roots)
		if len(all) != truth.Size(l, order) || !slices.IsSorted(all) || err != api.OK {
			t.Fatalf("order %v: Reach: %d, %v, truth's %d", order, all, err, truth.Size(l, order))
		}
		for _, h := range all {
			below, err := mark.Reach(s, []api.Handle{h})
			if len(below) != truth.Size([]api.Func{function(s, h)}, order) || !slices.Contains(below, h) || err != api.OK {
				t.Fatalf("order %v: Reach of %d: %d, %v", order, h, below, err)
			}
		}
		if none, err := mark.Reach(s, append(all, 1<<20)); len(none) != 0 || err != api.ErrNode {
			t.Fatalf("order %v: Reach: %d, %v", order, none, err)
		}
	}
}

// P17.2, P17.3: in every order what is reached stays, in that order, with its handles, levels, lows, highs and functions; the others go, and are made again in a store that has no more room than they had; by Collect and by Sweep, with the cache and without.
func TestCollectInOrders(t *testing.T) {
	for i, order := range someOrders() {
		for way := range 4 {
			d, again := draw(i+450), draw(i+450)
			first := ordered(t, order, 3000)
			gathered(t, first, &again, 1+i%3)
			s := ordered(t, order, max(first.Len(), 1))
			s.Cached(way/2 == 0)
			l, roots := gathered(t, s, &d, 1+i%3)
			was, funcs := map[api.Handle]triple{}, map[api.Handle]api.Func{}
			for _, h := range s.All() {
				was[h], funcs[h] = triple{s.Level(h), s.Low(h), s.High(h)}, function(s, h)
			}
			n, err := collected(s, roots, way%2 == 0)
			size := truth.Size(l, order)
			if n != len(was)-size || s.Len() != size || err != api.OK || !slices.Equal(s.Order().All(), order) {
				t.Fatalf("order %v: %d gone of %d, %v, %d stay, want %d, in order %v", order, n, len(was), err, s.Len(), size, s.Order().All())
			}
			for h, k := range was {
				if !s.Is(h) {
					k = triple{-1, 0, 0}
				}
				if got := (triple{s.Level(h), s.Low(h), s.High(h)}); got != k {
					t.Fatalf("order %v: node %d is %v, want %v", order, h, got, k)
				}
			}
			for j, h := range roots {
				if function(s, h) != l[j] || lay(t, s, l[j], 0) != h {
					t.Fatalf("order %v: %d is %x, want %x", order, h, function(s, h), l[j])
				}
			}
			for _, f := range funcs {
				if h := lay(t, s, f, 0); function(s, h) != f {
					t.Fatalf("order %v: %d is %x, want %x", order, h, function(s, h), f)
				}
			}
			if once(t, s); s.Len() != len(was) {
				t.Fatalf("order %v: %d nodes, want %d", order, s.Len(), len(was))
			}
		}
	}
}

// collected is a Collect of the roots, or a Sweep by what holds them, protected and on stacks.
func collected(s *nodes.Store, roots []api.Handle, swept bool) (int, api.Errno) {
	if !swept {
		return mark.Collect(s, roots)
	}
	r := refs.New(2)
	for i, h := range roots {
		if i%2 == 0 {
			r.Protect(h)
		} else {
			r.Push(i/2%2, h)
		}
	}
	return mark.Sweep(s, r)
}

// P17.3: in every order operations go on behind a collection, of what stays, and mean what they meant.
func TestOperationsBehindInOrders(t *testing.T) {
	for i, order := range someOrders() {
		d := draw(i + 480)
		s := ordered(t, order, api.MaxSlots)
		s.Cached(i%2 == 0)
		f, g := drawn(&d, len(order)), drawn(&d, len(order))
		a, b := lay(t, s, f, 0), lay(t, s, g, 0)
		for range 3 {
			mask, v := uint8(d.next(1<<len(order))), d.next(len(order))
			h, err := logic.Xor(s, a, b)
			answers(t, s, a, f, truth.Xor(f, g), h, err)
			h, err = quant.Exists(s, a, mask)
			answers(t, s, a, f, truth.Exists(f, mask), h, err)
			h, err = compose.Compose(s, a, v, b)
			answers(t, s, a, f, truth.Compose(f, v, g), h, err)
			h, err = build.From(s, truth.And(f, truth.Var(v)))
			answers(t, s, a, f, truth.And(f, truth.Var(v)), h, err)
			counts(t, s, a, f)
			if _, err := mark.Collect(s, []api.Handle{a, b}); err != api.OK || s.Len() != truth.Size([]api.Func{f, g}, order) {
				t.Fatalf("order %v: Collect: %v, %d nodes", order, err, s.Len())
			}
		}
	}
}
