package truth_test

import (
	"math"
	"slices"
	"testing"

	"spinney/api"
	"spinney/truth"
)

// all is how many assignments there are.
const all = 256

// noVars are numbers that are no variable's.
var noVars = []int{-1, -2, -8, -64, -256, 8, 9, 16, 63, 64, 256, math.MinInt, math.MinInt32, math.MaxInt32, math.MaxInt}

// value is f at x, by the words of package api alone.
func value(f api.Func, x int) bool { return f[x/64]>>(x%64)&1 == 1 }

// table is the function that is true where at says so.
func table(at func(x int) bool) api.Func {
	var f api.Func
	for x := range all {
		if at(x) {
			f[x/64] |= 1 << (x % 64)
		}
	}
	return f
}

// single is true at x alone.
func single(x int) api.Func { return table(func(y int) bool { return y == x }) }

// with is x with bit v set to b.
func with(x, v int, b bool) int {
	if b {
		return x | 1<<v
	}
	return x &^ (1 << v)
}

// draw is a sequence of words that hits all bits.
type draw uint64

func (d *draw) word() uint64 {
	*d = *d*6364136223846793005 + 1442695040888963407
	w := uint64(*d)
	return w ^ w>>29 ^ w<<17
}

// table is a function of no pattern; a sparse or a dense one by turns.
func (d *draw) table(kind int) api.Func {
	var f api.Func
	for i := range f {
		f[i] = d.word()
		switch kind % 4 {
		case 1:
			f[i] &= d.word() & d.word()
		case 2:
			f[i] |= d.word() | d.word()
		case 3:
			f[i] &= d.word() & d.word() & d.word() & d.word()
		}
	}
	return f
}

// samples are the constants, the variables, functions of few variables, single assignments, and n drawn ones.
func samples(n int) []api.Func {
	l := []api.Func{{}, table(func(int) bool { return true })}
	for v := range api.MaxVars {
		l = append(l, table(func(x int) bool { return x>>v&1 == 1 }), table(func(x int) bool { return x>>v&1 == 0 }))
	}
	for _, x := range []int{0, 1, 63, 64, 127, 128, 191, 192, 255} {
		l = append(l, single(x), table(func(y int) bool { return y != x }))
	}
	l = append(l,
		table(func(x int) bool { return x>>2&1 == 1 && x>>6&1 == 0 }),
		table(func(x int) bool { return x>>5&1 != x>>7&1 }),
		table(func(x int) bool { return x%3 == 1 }),
		table(func(x int) bool { return x >= 100 }),
	)
	d := draw(1)
	for k := range n {
		l = append(l, d.table(k))
	}
	return l
}

// expect tells each place where got isn't what at says.
func expect(t *testing.T, got api.Func, at func(x int) bool, what string, args ...any) {
	t.Helper()
	for x := range all {
		if value(got, x) != at(x) {
			t.Fatalf(what+": %v at %d", append(args, value(got, x), x)...)
		}
	}
}

// P3.1: a constant is the same at each assignment.
func TestConst(t *testing.T) {
	expect(t, truth.Const(true), func(int) bool { return true }, "Const(true)")
	expect(t, truth.Const(false), func(int) bool { return false }, "Const(false)")
}

// P3.1: a variable is its bit of the assignment.
func TestVar(t *testing.T) {
	for v := range api.MaxVars {
		expect(t, truth.Var(v), func(x int) bool { return x>>v&1 == 1 }, "Var(%d)", v)
	}
}

// P3.1: what is no variable is false.
func TestVarOfNone(t *testing.T) {
	for _, v := range noVars {
		if got := truth.Var(v); got != (api.Func{}) {
			t.Errorf("Var(%d) = %x, want false throughout", v, got)
		}
	}
}

// P3.1: not, and, or, xor by each assignment.
func TestConnectives(t *testing.T) {
	l := samples(20)
	for _, f := range l {
		expect(t, truth.Not(f), func(x int) bool { return !value(f, x) }, "Not(%x)", f)
		for _, g := range l {
			expect(t, truth.And(f, g), func(x int) bool { return value(f, x) && value(g, x) }, "And(%x, %x)", f, g)
			expect(t, truth.Or(f, g), func(x int) bool { return value(f, x) || value(g, x) }, "Or(%x, %x)", f, g)
			expect(t, truth.Xor(f, g), func(x int) bool { return value(f, x) != value(g, x) }, "Xor(%x, %x)", f, g)
		}
	}
}

// P3.1: g where f is, else h.
func TestIte(t *testing.T) {
	l := samples(8)
	for i, f := range l {
		for j, g := range l {
			h := l[(i*7+j*3+1)%len(l)]
			expect(t, truth.Ite(f, g, h), func(x int) bool {
				if value(f, x) {
					return value(g, x)
				}
				return value(h, x)
			}, "Ite(%x, %x, %x)", f, g, h)
		}
	}
}

// P3.1: the value at each assignment, and no neighbour's.
func TestEval(t *testing.T) {
	for x := range all {
		f := single(x)
		for y := range all {
			if got := truth.Eval(f, uint8(y)); got != (x == y) {
				t.Fatalf("Eval(only %d, %d) = %v", x, y, got)
			}
		}
	}
	for _, f := range samples(20) {
		for x := range all {
			if got := truth.Eval(f, uint8(x)); got != value(f, x) {
				t.Fatalf("Eval(%x, %d) = %v", f, x, got)
			}
		}
	}
}

// P3.1: what f is with the bit set so.
func TestFix(t *testing.T) {
	for _, f := range samples(20) {
		for v := range api.MaxVars {
			for _, b := range []bool{false, true} {
				expect(t, truth.Fix(f, v, b), func(x int) bool { return value(f, with(x, v, b)) }, "Fix(%x, %d, %v)", f, v, b)
			}
		}
	}
}

// P3.1: of no variable f itself.
func TestFixOfNone(t *testing.T) {
	for _, f := range samples(5) {
		for _, v := range noVars {
			for _, b := range []bool{false, true} {
				if got := truth.Fix(f, v, b); got != f {
					t.Fatalf("Fix(%x, %d, %v) = %x, want it itself", f, v, b, got)
				}
			}
		}
	}
}

// over tells whether f is true at some, and at all, of the assignments that are as x outside of mask.
func over(f api.Func, mask uint8, x int) (some, each bool) {
	each = true
	for y := range all {
		if (x^y)&^int(mask) == 0 {
			some, each = some || value(f, y), each && value(f, y)
		}
	}
	return some, each
}

// P3.1: the or and the and over the variables of each mask, none and all among them.
func TestQuantifiers(t *testing.T) {
	l := samples(2)
	for mask := range all {
		m := uint8(mask)
		for _, f := range []api.Func{l[mask%len(l)], l[len(l)-1-mask%2], single(mask), truth.Not(single(mask ^ 0x5a))} {
			expect(t, truth.Exists(f, m), func(x int) bool { some, _ := over(f, m, x); return some }, "Exists(%x, %#x)", f, m)
			expect(t, truth.Forall(f, m), func(x int) bool { _, each := over(f, m, x); return each }, "Forall(%x, %#x)", f, m)
		}
	}
}

// P3.1: no variable changes nothing; all of them leave a constant.
func TestQuantifiersEdges(t *testing.T) {
	for _, f := range samples(10) {
		if truth.Exists(f, 0) != f || truth.Forall(f, 0) != f {
			t.Errorf("%x: changed over no variable", f)
		}
		if got, want := truth.Exists(f, 255), truth.Const(f != truth.Const(false)); got != want {
			t.Errorf("Exists(%x, all) = %x, want %x", f, got, want)
		}
		if got, want := truth.Forall(f, 255), truth.Const(f == truth.Const(true)); got != want {
			t.Errorf("Forall(%x, all) = %x, want %x", f, got, want)
		}
	}
}

// P3.1: each variable of the mask is as vals has it; what vals has beside the mask is passed by.
func TestRestrict(t *testing.T) {
	l := samples(20)
	for mask := range all {
		for _, vals := range []int{0, 255, 0x55, 0xaa, mask, 255 ^ mask, mask * 37 % 256} {
			for _, f := range []api.Func{l[mask%len(l)], l[len(l)-1-vals%4]} {
				expect(t, truth.Restrict(f, uint8(mask), uint8(vals)), func(x int) bool {
					return value(f, x&^mask|vals&mask)
				}, "Restrict(%x, %#x, %#x)", f, mask, vals)
			}
		}
	}
}

// P3.1: of no variable nothing is fixed; of all of them the value at vals is left.
func TestRestrictEdges(t *testing.T) {
	for _, f := range samples(10) {
		for vals := range all {
			if got := truth.Restrict(f, 0, uint8(vals)); got != f {
				t.Fatalf("Restrict(%x, 0, %#x) = %x, want it itself", f, vals, got)
			}
			if got := truth.Restrict(f, 255, uint8(vals)); got != truth.Const(value(f, vals)) {
				t.Fatalf("Restrict(%x, all, %#x) = %x", f, vals, got)
			}
		}
	}
}

// P3.1: f with the bit as g has it.
func TestCompose(t *testing.T) {
	l := samples(10)
	for i, f := range l {
		for j, g := range l {
			v := (i + j) % api.MaxVars
			expect(t, truth.Compose(f, v, g), func(x int) bool { return value(f, with(x, v, value(g, x))) }, "Compose(%x, %d, %x)", f, v, g)
		}
	}
}

// P3.1: of no variable f itself.
func TestComposeOfNone(t *testing.T) {
	l := samples(3)
	for i, f := range l {
		for _, v := range noVars {
			for _, g := range []api.Func{{}, l[1], l[i]} {
				if got := truth.Compose(f, v, g); got != f {
					t.Fatalf("Compose(%x, %d, %x) = %x, want it itself", f, v, g, got)
				}
			}
		}
	}
}

// pairs hands over states and relations: drawn ones, and those that hang on the wrong variables.
func pairs(do func(states, rel api.Func)) {
	l := samples(12)
	for i, s := range l {
		do(s, l[(i*5+3)%len(l)])
		do(s, l[len(l)-1-i%12])
		do(l[len(l)-1-i%12], truth.And(s, l[len(l)-2]))
	}
}

// P3.2: where a pair leads to from a state; x's odd bits don't matter.
func TestNext(t *testing.T) {
	pairs(func(states, rel api.Func) {
		expect(t, truth.Next(states, rel), func(x int) bool {
			for y := range all {
				if y>>1&0x55 == x&0x55 && value(states, y) && value(rel, y) {
					return true
				}
			}
			return false
		}, "Next(%x, %x)", states, rel)
	})
}

// P3.2: where a pair begins that leads to a state whose odd bits are 0.
func TestPrev(t *testing.T) {
	pairs(func(states, rel api.Func) {
		expect(t, truth.Prev(states, rel), func(x int) bool {
			for y := range all {
				if y&0x55 == x&0x55 && value(rel, y) && value(states, y>>1&0x55) {
					return true
				}
			}
			return false
		}, "Prev(%x, %x)", states, rel)
	})
}

// state is true at the assignments whose even bits are those of s, in turn.
func state(s int) api.Func {
	return table(func(x int) bool { return x&0x55 == s&1|s>>1&1<<2|s>>2&1<<4|s>>3&1<<6 })
}

// pair is true at the one assignment whose even bits are those of from, whose odd bits those of to.
func pair(from, to int) api.Func {
	x := 0
	for i := range 4 {
		x |= from>>i&1<<(2*i) | to>>i&1<<(2*i+1)
	}
	return single(x)
}

// P3.2: one pair leads from its one state to its other one, and back, for each pair.
func TestStepsOfOnePair(t *testing.T) {
	for from := range 16 {
		for to := range 16 {
			rel := pair(from, to)
			for s := range 16 {
				next, prev := api.Func{}, api.Func{}
				if s == from {
					next = state(to)
				}
				if s == to {
					prev = state(from)
				}
				if got := truth.Next(state(s), rel); got != next {
					t.Fatalf("Next(%d, %d to %d) = %x, want %x", s, from, to, got, next)
				}
				if got := truth.Prev(state(s), rel); got != prev {
					t.Fatalf("Prev(%d, %d to %d) = %x, want %x", s, from, to, got, prev)
				}
			}
		}
	}
}

// P3.2: nothing is ahead of or behind no states, and by no pairs.
func TestStepsOfNothing(t *testing.T) {
	no := api.Func{}
	for _, f := range samples(10) {
		for what, got := range map[string]api.Func{
			"Next of no states": truth.Next(no, f),
			"Next of no pairs":  truth.Next(f, no),
			"Prev of no states": truth.Prev(no, f),
			"Prev of no pairs":  truth.Prev(f, no),
		} {
			if got != no {
				t.Errorf("%s, beside %x: %x", what, f, got)
			}
		}
	}
	every := truth.Const(true)
	if truth.Next(every, every) != every || truth.Prev(every, every) != every {
		t.Error("all pairs and all states don't lead everywhere")
	}
}

// P3.3: at how many it is true.
func TestCount(t *testing.T) {
	for _, f := range samples(50) {
		want := 0
		for x := range all {
			if value(f, x) {
				want++
			}
		}
		if got := truth.Count(f); got != want {
			t.Errorf("Count(%x) = %d, want %d", f, got, want)
		}
	}
	if no, every := truth.Count(truth.Const(false)), truth.Count(truth.Const(true)); no != 0 || every != 256 {
		t.Errorf("Count of the constants = %d, %d", no, every)
	}
	if got := truth.Count(truth.Var(3)); got != 128 {
		t.Errorf("Count(Var(3)) = %d", got)
	}
}

// hangs tells whether f hangs on v.
func hangs(f api.Func, v int) bool {
	for x := range all {
		if value(f, x) != value(f, x^1<<v) {
			return true
		}
	}
	return false
}

// P3.3: the variables on which it hangs, and no others.
func TestSupport(t *testing.T) {
	l := samples(30)
	for mask := range all {
		l = append(l, table(func(x int) bool { return x&mask == mask }), table(func(x int) bool { return x&mask != 0 && x&mask < 100 }))
	}
	for _, f := range l {
		want := uint8(0)
		for v := range api.MaxVars {
			if hangs(f, v) {
				want |= 1 << v
			}
		}
		if got := truth.Support(f); got != want {
			t.Errorf("Support(%x) = %#x, want %#x", f, got, want)
		}
	}
}

// P3.3: one assignment that differs is enough to hang on all.
func TestSupportOfSingles(t *testing.T) {
	for x := range all {
		if got := truth.Support(single(x)); got != 255 {
			t.Errorf("Support(only %d) = %#x", x, got)
		}
	}
}

// P3.3: the least assignment, whatever lies above it.
func TestOne(t *testing.T) {
	d := draw(9)
	for least := range all {
		above := d.table(least)
		for _, f := range []api.Func{
			single(least),
			table(func(x int) bool { return x >= least }),
			table(func(x int) bool { return x == least || x > least && value(above, x) }),
		} {
			if x, ok := truth.One(f); int(x) != least || !ok {
				t.Fatalf("One(%x) = %d, %v, want %d", f, x, ok, least)
			}
		}
	}
}

// P3.3: 0 and false of a function that is never true.
func TestOneOfNone(t *testing.T) {
	if x, ok := truth.One(truth.Const(false)); x != 0 || ok {
		t.Errorf("One(false) = %d, %v", x, ok)
	}
	if x, ok := truth.One(truth.Const(true)); x != 0 || !ok {
		t.Errorf("One(true) = %d, %v", x, ok)
	}
}

// size is Size by its words: every function, gathered over each k and all values.
func size(l []api.Func, vars []int) int {
	found := map[api.Func]bool{}
	var fix func(f api.Func, vars []int)
	fix = func(f api.Func, vars []int) {
		found[f] = true
		if len(vars) == 0 {
			return
		}
		v := vars[0]
		for _, b := range []bool{false, true} {
			g := f
			if v >= 0 && v < api.MaxVars {
				g = table(func(x int) bool { return value(f, with(x, v, b)) })
			}
			fix(g, vars[1:])
		}
	}
	if len(vars) > api.MaxVars {
		vars = vars[:api.MaxVars]
	}
	for _, f := range l {
		fix(f, vars)
	}
	delete(found, api.Func{})
	delete(found, table(func(int) bool { return true }))
	return len(found)
}

// sizeVars are orders of all variables, of some, with numbers that are none, with variables twice, and longer ones.
var sizeVars = [][]int{
	nil, {}, {0}, {7}, {3, 5}, {0, 1, 2, 3, 4, 5, 6, 7}, {7, 6, 5, 4, 3, 2, 1, 0}, {0, 2, 4, 6, 1, 3, 5, 7},
	{-1}, {8}, {-1, 0, 8, 1, 64, 2}, {math.MinInt, 3, math.MaxInt}, {8, 9, 10, 11, 12, 13, 14, 15},
	{0, 0}, {2, 2, 5, 2}, {1, 1, 1, 1, 1, 1, 1, 1}, {7, 0, 7, 0, 6},
	{0, 1, 2, 3, 4, 5, 6, 7, 0}, {0, 0, 1, 1, 2, 2, 3, 3, 4, 4, 5, 5, 6, 6, 7, 7}, {-1, 0, -1, 1, -1, 2, -1, 3, 4, 5, 6, 7}, {8, 8, 8, 8, 8, 8, 8, 8, 0, 1, 2},
}

// P3.3: as many as the words tell, by each list of variables.
func TestSize(t *testing.T) {
	l := samples(10)
	drawn := l[len(l)-10:]
	lists := [][]api.Func{nil, {}, {l[0]}, {l[1]}, {l[0], l[1]}, {l[2]}, {l[5], l[5]}, l[:10], drawn[:1], drawn[1:2], drawn[3:4], {drawn[0], drawn[0], truth.Not(drawn[0])}, {drawn[3], l[4], l[1], l[16]}}
	for i, list := range lists {
		for _, vars := range sizeVars {
			if got, want := truth.Size(list, vars), size(list, vars); got != want {
				t.Errorf("Size(list %d, %v) = %d, want %d", i, vars, got, want)
			}
		}
	}
}

// sums is ab + cd + ef, for which the order matters.
func sums() api.Func {
	return table(func(x int) bool { return x&3 == 3 || x>>2&3 == 3 || x>>4&3 == 3 })
}

// P3.3: sizes told by hand.
func TestSizeKnown(t *testing.T) {
	f, odd := sums(), table(func(x int) bool { return x&1 != x>>7&1 })
	cases := []struct {
		what string
		l    []api.Func
		vars []int
		want int
	}{
		{"of no functions", nil, []int{0, 1, 2}, 0},
		{"of no functions, by no variables", nil, nil, 0},
		{"of false", []api.Func{truth.Const(false)}, []int{0, 1}, 0},
		{"of both constants", []api.Func{truth.Const(true), truth.Const(false)}, nil, 0},
		{"of a variable, by none", []api.Func{truth.Var(1)}, nil, 1},
		{"of a variable, by itself", []api.Func{truth.Var(1)}, []int{1}, 1},
		{"of a variable, by another one", []api.Func{truth.Var(1)}, []int{2}, 1},
		{"of a variable and not it", []api.Func{truth.Var(1), truth.Not(truth.Var(1))}, []int{1}, 2},
		{"of one function twice", []api.Func{f, f}, []int{0, 1, 2, 3, 4, 5}, 6},
		{"in a good order", []api.Func{f}, []int{0, 1, 2, 3, 4, 5}, 6},
		{"in a bad order", []api.Func{f}, []int{0, 2, 4, 1, 3, 5}, 14},
		{"with what comes of it beside it", []api.Func{f, truth.Var(5), truth.Fix(f, 0, true)}, []int{0, 1, 2, 3, 4, 5}, 6},
		{"of a xor", []api.Func{odd}, []int{0, 7}, 3},
		{"of a xor, what isn't fixed in it counts", []api.Func{odd}, []int{0}, 3},
		{"of a xor, by numbers that are no variables", []api.Func{odd}, []int{-1, 8, 100}, 1},
		{"of a xor, beside numbers that are no variables", []api.Func{odd}, []int{-1, 7, 8, 0}, 3},
		{"of a xor, by a variable twice", []api.Func{odd}, []int{7, 7, 0, 0}, 3},
		{"of a xor, by variables beyond the last", []api.Func{odd}, []int{1, 2, 3, 4, 5, 6, 1, 2, 0, 7}, 1},
		{"of a xor, by one variable at the last place", []api.Func{odd}, []int{1, 2, 3, 4, 5, 6, 1, 0, 7}, 3},
		{"of a xor, places taken by what is no variable", []api.Func{odd}, []int{8, 8, 8, 8, 8, 8, 8, 8, 0, 7}, 1},
	}
	for _, c := range cases {
		if got := truth.Size(c.l, c.vars); got != c.want {
			t.Errorf("Size %s: %d, want %d", c.what, got, c.want)
		}
	}
}

// P3.3, and DOC.md's rule 3: what is handed in stays as it was, the spare room behind it too.
func TestSizeKeepsItsArguments(t *testing.T) {
	l := samples(6)
	vars := []int{3, 1, -1, 8, 1, 0, 7, 6, 5, 4, 2}
	wantL, wantVars := slices.Clone(l), slices.Clone(vars)
	truth.Size(l[:len(l)-2], vars[:9])
	if !slices.Equal(l, wantL) || !slices.Equal(vars, wantVars) {
		t.Error("Size changed what it was handed")
	}
}

// P3.3: the same answer whenever it is asked the same.
func TestSizeIsSteady(t *testing.T) {
	l := samples(12)
	want := truth.Size(l, []int{4, 2, 6, 0, 1})
	slices.Reverse(l)
	for range 20 {
		if got := truth.Size(l, []int{4, 2, 6, 0, 1}); got != want {
			t.Fatalf("Size = %d, and was %d", got, want)
		}
	}
}

// P3.4: functions are alike just if they are alike at each assignment, however they were made.
func TestAFunctionIsItsTable(t *testing.T) {
	a, b, c := truth.Var(1), truth.Var(6), truth.Var(4)
	alike := [][2]api.Func{
		{truth.Not(truth.Not(a)), a},
		{truth.Not(truth.And(a, b)), truth.Or(truth.Not(a), truth.Not(b))},
		{truth.Xor(a, b), truth.Ite(a, truth.Not(b), b)},
		{truth.Xor(truth.Xor(a, b), b), a},
		{truth.Or(truth.And(a, b), truth.And(truth.Not(a), c)), truth.Ite(a, b, c)},
		{truth.Exists(truth.And(a, b), 1<<1), b},
		{truth.Forall(truth.Or(a, b), 1<<6), a},
		{truth.Compose(truth.Xor(a, b), 1, b), truth.Const(false)},
		{truth.Restrict(truth.Ite(a, b, c), 1<<1, 255), b},
		{truth.And(truth.Fix(a, 1, true), b), b},
	}
	for i, p := range alike {
		if p[0] != p[1] {
			t.Errorf("row %d: %x isn't %x", i, p[0], p[1])
		}
	}
}

// P3.4: the table of each function is told value by value and put together again, by variables and connectives alone.
func TestATableIsMadeOfItsValues(t *testing.T) {
	for _, f := range samples(10) {
		var g api.Func
		for x := range all {
			if !truth.Eval(f, uint8(x)) {
				continue
			}
			at := truth.Const(true)
			for v := range api.MaxVars {
				at = truth.And(at, truth.Xor(truth.Var(v), truth.Const(x>>v&1 == 0)))
			}
			g = truth.Or(g, at)
		}
		if f != g {
			t.Errorf("%x: put together as %x", f, g)
		}
	}
}

// P3.4: what was handed in is a table of the caller's own: no call changes it.
func TestArgumentsStay(t *testing.T) {
	l := samples(3)
	f, g, h := l[len(l)-3], l[len(l)-2], l[len(l)-1]
	keptF, keptG, keptH := f, g, h
	truth.Not(f)
	truth.Ite(f, g, h)
	truth.Xor(f, g)
	truth.Exists(f, 255)
	truth.Compose(f, 3, g)
	truth.Next(f, g)
	truth.Prev(g, h)
	v := truth.Var(2)
	v[0] = 0
	if f != keptF || g != keptG || h != keptH || !truth.Eval(truth.Var(2), 4) {
		t.Error("a table was changed")
	}
}
