package order_test

import (
	"math"
	"slices"
	"testing"

	"spinney/api"
	"spinney/order"
)

// below are numbers below 0: of no variable and of no level.
var below = []int{-1, -2, -8, -256, -1 << 32, math.MinInt32, math.MinInt + 1, math.MinInt}

// beyond are numbers from n on: of no variable and of no level of an order of n.
func beyond(n int) []int {
	return []int{n, n + 1, 2 * n, 9, 16, 255, 256, 1 << 32, 1<<32 + 1, math.MaxInt32, math.MaxInt - 1, math.MaxInt}
}

// rising is 0 .. n-1.
func rising(n int) []int {
	l := make([]int, n)
	for i := range l {
		l[i] = i
	}
	return l
}

// expect fails unless o tells want by levels, in each of its calls, and the way back for each variable.
func expect(t *testing.T, o *order.Order, want []int, behind string) {
	t.Helper()
	if o.Len() != len(want) {
		t.Fatalf("behind %s: Len %d, want %d", behind, o.Len(), len(want))
	}
	if got := o.All(); !slices.Equal(got, want) {
		t.Fatalf("behind %s: All %v, want %v", behind, got, want)
	}
	for level, v := range want {
		if o.Var(level) != v || o.Level(v) != level {
			t.Fatalf("behind %s: Var(%d) = %d, Level(%d) = %d, want %v", behind, level, o.Var(level), v, o.Level(v), want)
		}
	}
}

// told fails unless the call answered want.
func told(t *testing.T, got, want api.Errno, what string) {
	t.Helper()
	if got != want {
		t.Fatalf("%s: %v, want %v", what, got, want)
	}
}

// set is an order that was set to l.
func set(t *testing.T, l []int) *order.Order {
	t.Helper()
	o := order.New(len(l))
	told(t, o.Set(l), api.OK, "Set of an order")
	expect(t, o, l, "Set")
	return o
}

// permutations calls do with each order of 0 .. n-1.
func permutations(n int, do func(l []int)) {
	var lay func(l []int, k int)
	lay = func(l []int, k int) {
		if k == n {
			do(l)
			return
		}
		for i := k; i < n; i++ {
			m := slices.Clone(l)
			m[k], m[i] = m[i], m[k]
			lay(m, k+1)
		}
	}
	lay(rising(n), 0)
}

// draw is a row of numbers without a pattern.
type draw uint64

func (d *draw) next(below int) int {
	*d = *d*6364136223846793005 + 1442695040888963407
	return int(uint64(*d) >> 33 % uint64(below))
}

// P4.1: the number of variables is held from 1 to MaxVars, and each lies at the level of its number.
func TestNew(t *testing.T) {
	for n := 1; n <= api.MaxVars; n++ {
		expect(t, order.New(n), rising(n), "New")
	}
	for _, n := range append([]int{0}, below...) {
		expect(t, order.New(n), []int{0}, "New below 1")
	}
	for _, n := range beyond(api.MaxVars) {
		expect(t, order.New(n), rising(api.MaxVars), "New from MaxVars on")
	}
}

// P4.1: what there is none of lies nowhere, whatever was done before.
func TestNone(t *testing.T) {
	for n := 1; n <= api.MaxVars; n++ {
		turned := rising(n)
		slices.Reverse(turned)
		for _, o := range []*order.Order{order.New(n), set(t, turned), set(t, turned).Copy()} {
			for _, i := range append(beyond(n), below...) {
				if o.Var(i) != -1 || o.Level(i) != -1 {
					t.Errorf("%d variables: Var(%d) = %d, Level(%d) = %d, want -1", n, i, o.Var(i), i, o.Level(i))
				}
			}
		}
	}
}

// P4.1: the chapter's example.
func TestSwapOfThree(t *testing.T) {
	o := order.New(3)
	told(t, o.Swap(0), api.OK, "Swap(0)")
	expect(t, o, []int{1, 0, 2}, "Swap(0) of New(3)")
}

// P4.1: a level and the next one change their variables, all others keep theirs; once more, and it is as it was.
func TestSwap(t *testing.T) {
	for n := 1; n <= 5; n++ {
		permutations(n, func(l []int) {
			for level := range n - 1 {
				o := set(t, l)
				want := slices.Clone(l)
				want[level], want[level+1] = want[level+1], want[level]
				told(t, o.Swap(level), api.OK, "Swap")
				expect(t, o, want, "Swap")
				told(t, o.Swap(level), api.OK, "Swap once more")
				expect(t, o, l, "Swap once more")
			}
		})
	}
}

// P4.1: Swap goes by levels, not by variables: the first one sinks to the last level.
func TestSwapDown(t *testing.T) {
	o := order.New(api.MaxVars)
	for level := range api.MaxVars - 1 {
		told(t, o.Swap(level), api.OK, "Swap")
	}
	expect(t, o, []int{1, 2, 3, 4, 5, 6, 7, 0}, "all swaps downwards")
}

// P4.1: below 0, of the last level and beyond it there is nothing to swap, and nothing is changed.
func TestSwapOfNone(t *testing.T) {
	for n := 1; n <= api.MaxVars; n++ {
		l := rising(n)
		slices.Reverse(l)
		o := set(t, l)
		for _, level := range append(append(beyond(n), below...), n-1) {
			told(t, o.Swap(level), api.ErrVar, "Swap of no two levels")
			expect(t, o, l, "a refused Swap")
		}
	}
}

// P4.1: each order can be set, from each other one.
func TestSet(t *testing.T) {
	for n := 1; n <= 4; n++ {
		permutations(n, func(from []int) {
			o := set(t, from)
			permutations(n, func(to []int) {
				told(t, o.Set(to), api.OK, "Set")
				expect(t, o, to, "Set")
			})
		})
	}
	o := order.New(api.MaxVars)
	permutations(api.MaxVars, func(l []int) {
		told(t, o.Set(l), api.OK, "Set of eight")
		expect(t, o, l, "Set of eight")
	})
}

// P4.1: what isn't each variable once is refused, and nothing is changed.
func TestSetOfNoOrder(t *testing.T) {
	cases := []struct {
		what string
		vars []int
	}{
		{"nil", nil},
		{"nothing", []int{}},
		{"one alone", []int{0}},
		{"too few", []int{0, 1, 2}},
		{"too few, the least left out", []int{3, 2, 1}},
		{"too many", []int{0, 1, 2, 3, 4}},
		{"too many, one twice at the end", []int{0, 1, 2, 3, 3}},
		{"too many by far", rising(1000)},
		{"an order of MaxVars", rising(api.MaxVars)},
		{"one twice at the beginning", []int{1, 1, 2, 3}},
		{"one twice at the end", []int{0, 1, 2, 2}},
		{"one twice, far apart", []int{3, 1, 2, 3}},
		{"the least twice", []int{0, 0, 1, 2}},
		{"one four times", []int{2, 2, 2, 2}},
		{"0 throughout", []int{0, 0, 0, 0}},
		{"counted from 1 on", []int{1, 2, 3, 4}},
		{"-1 at the beginning", []int{-1, 0, 1, 2}},
		{"-1 at the end", []int{0, 1, 2, -1}},
		{"the number of variables", []int{0, 1, 2, 4}},
		{"a variable of MaxVars", []int{0, 1, 2, 7}},
		{"MaxVars", []int{0, 1, 2, 8}},
		{"alike modulo 256", []int{0, 1, 2, 256 + 3}},
		{"alike modulo 2^32", []int{0, 1, 2, 1<<32 + 3}},
		{"the highest number", []int{0, 1, 2, math.MaxInt}},
		{"the lowest number", []int{math.MinInt, 1, 2, 3}},
		{"no variable, and none missing but one", []int{-1, -1, -1, 3}},
	}
	start := []int{2, 0, 3, 1}
	o := set(t, start)
	for _, c := range cases {
		told(t, o.Set(c.vars), api.ErrVar, c.what)
		expect(t, o, start, c.what)
	}
	told(t, o.Swap(0), api.OK, "Swap behind refusals")
	expect(t, o, []int{0, 2, 3, 1}, "Swap behind refusals")
}

// P4.1: of each number of variables the orders of all other numbers are refused.
func TestSetOfOtherLengths(t *testing.T) {
	for n := 1; n <= api.MaxVars; n++ {
		o := order.New(n)
		for m := range 2*api.MaxVars + 1 {
			want := api.ErrVar
			if m == n {
				want = api.OK
			}
			told(t, o.Set(rising(m)), want, "Set")
			expect(t, o, rising(n), "Set")
		}
	}
}

// P4.1, P4.2: of all lists of four numbers from -1 to 4 just the permutations of 0 .. 3 are taken.
func TestSetTakesPermutationsAlone(t *testing.T) {
	o, taken := order.New(4), 0
	held := o.All()
	for k := range 6 * 6 * 6 * 6 {
		l := []int{k%6 - 1, k/6%6 - 1, k/36%6 - 1, k/216 - 1}
		sorted := slices.Clone(l)
		slices.Sort(sorted)
		want := api.ErrVar
		if slices.Equal(sorted, rising(4)) {
			want, held = api.OK, l
			taken++
		}
		told(t, o.Set(l), want, "Set")
		expect(t, o, held, "Set")
	}
	if taken != 24 {
		t.Errorf("%d permutations of four", taken)
	}
}

// P4.1, and DOC.md's rule 3: what is handed to Set stays as it was, the spare room behind it too, and isn't kept.
func TestSetKeepsNothing(t *testing.T) {
	l := []int{2, 1, 0, 77, 78}
	o := order.New(3)
	told(t, o.Set(l[:3]), api.OK, "Set")
	told(t, o.Swap(0), api.OK, "Swap")
	if !slices.Equal(l, []int{2, 1, 0, 77, 78}) {
		t.Errorf("what was handed in is %v", l)
	}
	for i := range l {
		l[i] = 5
	}
	expect(t, o, []int{1, 2, 0}, "writes to what was handed in")
	bad := []int{0, 0, 9, 77}
	told(t, o.Set(bad[:3]), api.ErrVar, "Set of no order")
	if !slices.Equal(bad, []int{0, 0, 9, 77}) {
		t.Errorf("what was refused is %v", bad)
	}
}

// P4.1, and DOC.md's rule 3: All tells a copy: neither follows the other one, nor the spare room behind it.
func TestAllIsACopy(t *testing.T) {
	for n := 1; n <= api.MaxVars; n++ {
		o := order.New(n)
		first, second := o.All(), o.All()
		for i := range first[:cap(first)] {
			first[:cap(first)][i] = 77
		}
		_ = append(first, 78)
		if !slices.Equal(second, rising(n)) {
			t.Errorf("%d variables: another answer is %v", n, second)
		}
		expect(t, o, rising(n), "writes to All")
		if n > 1 {
			told(t, o.Swap(0), api.OK, "Swap")
			if !slices.Equal(second, rising(n)) {
				t.Errorf("%d variables: an earlier answer is %v behind Swap", n, second)
			}
		}
	}
}

// P4.1: what All tells can be set again, to the same order itself too.
func TestSetOfAll(t *testing.T) {
	permutations(4, func(l []int) {
		o, other := set(t, l), order.New(4)
		told(t, o.Set(o.All()), api.OK, "Set of its own")
		expect(t, o, l, "Set of its own")
		told(t, other.Set(o.All()), api.OK, "Set of another one's")
		expect(t, other, l, "Set of another one's")
	})
}

// P4.1: a copy is as the order was, and each goes its own way from there.
func TestCopy(t *testing.T) {
	o := set(t, []int{3, 0, 2, 1})
	c := o.Copy()
	expect(t, c, []int{3, 0, 2, 1}, "Copy")
	told(t, o.Swap(1), api.OK, "Swap of the order")
	expect(t, o, []int{3, 2, 0, 1}, "Swap of the order")
	expect(t, c, []int{3, 0, 2, 1}, "Swap of the order")
	told(t, c.Set([]int{0, 1, 2, 3}), api.OK, "Set of the copy")
	expect(t, o, []int{3, 2, 0, 1}, "Set of the copy")
	expect(t, c, []int{0, 1, 2, 3}, "Set of the copy")
	told(t, c.Swap(2), api.OK, "Swap of the copy")
	expect(t, o, []int{3, 2, 0, 1}, "Swap of the copy")
	cc := c.Copy()
	told(t, c.Set([]int{3, 1, 0, 2}), api.OK, "Set of the copy")
	expect(t, cc, []int{0, 1, 3, 2}, "Set of what was copied twice")
}

// P4.1: a copy has as many variables as the order, and refuses what it refuses.
func TestCopyRefuses(t *testing.T) {
	for n := 1; n <= api.MaxVars; n++ {
		c := order.New(n).Copy()
		expect(t, c, rising(n), "Copy")
		told(t, c.Swap(n-1), api.ErrVar, "Swap of the last level")
		told(t, c.Set(rising(n+1)), api.ErrVar, "Set of too many")
		expect(t, c, rising(n), "refusals of the copy")
	}
}

// P4.1: what one order is told, another one doesn't hold.
func TestOrdersApart(t *testing.T) {
	a, b := order.New(4), order.New(4)
	told(t, a.Swap(0), api.OK, "Swap")
	expect(t, b, rising(4), "Swap of another one")
	expect(t, order.New(4), rising(4), "Swap of an earlier one")
}

// permuted fails unless each variable lies at just one level, and Var and Level lead back to one another.
func permuted(t *testing.T, o *order.Order) {
	t.Helper()
	sorted := o.All()
	slices.Sort(sorted)
	if !slices.Equal(sorted, rising(o.Len())) {
		t.Fatalf("%v is no permutation", o.All())
	}
	for i := range o.Len() {
		if o.Level(o.Var(i)) != i || o.Var(o.Level(i)) != i {
			t.Fatalf("%v: %d leads to level %d and to variable %d", o.All(), i, o.Level(i), o.Var(i))
		}
	}
}

// P4.1, P4.2: a long row of swaps, settings and copies, good and bad ones, against a plain list.
func TestIsAPermutationAlways(t *testing.T) {
	d := draw(4)
	for n := 1; n <= api.MaxVars; n++ {
		o, plain := order.New(n), rising(n)
		for range 5000 {
			switch d.next(4) {
			case 0:
				o = o.Copy()
			case 1:
				l := rising(n)
				for i := range l {
					k := d.next(n)
					l[i], l[k] = l[k], l[i]
				}
				told(t, o.Set(l), api.OK, "Set")
				plain = l
			case 2:
				l := slices.Clone(plain)
				l[d.next(n)] += 1 + d.next(n+3)
				told(t, o.Set(l), api.ErrVar, "Set of no order")
			case 3:
				level, want := d.next(n+4)-2, api.ErrVar
				if level >= 0 && level < n-1 {
					want = api.OK
					plain[level], plain[level+1] = plain[level+1], plain[level]
				}
				told(t, o.Swap(level), want, "Swap")
			}
			expect(t, o, plain, "a long row")
			permuted(t, o)
		}
	}
}
