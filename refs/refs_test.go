package refs_test

import (
	"math"
	"slices"
	"testing"

	"spinney/api"
	"spinney/refs"
)

// greatest is the last handle that can be told.
const greatest api.Handle = math.MaxUint32

// handles are the constants, those beside them, and those at the ends of what a handle can be.
var handles = []api.Handle{0, 1, 2, 3, 255, 256, 1<<28 - 1, 1 << 28, math.MaxInt32, 1 << 31, greatest - 1, greatest}

// below are numbers below 0: of no worker.
var below = []int{-1, -2, -4, -256, -1 << 32, math.MinInt32, math.MinInt + 1, math.MinInt}

// beyond are numbers from n on: of no worker of n.
func beyond(n int) []int {
	return []int{n, n + 1, 2 * n, 2 * api.MaxWorkers, 255, 256, 1 << 32, math.MaxInt32, math.MaxInt - 1, math.MaxInt}
}

// plain is what refs holds, as lists that are gone through whenever it is asked.
type plain struct {
	protected []api.Handle // each as often as it is protected
	stacks    [][]api.Handle
}

// none is what so many workers hold at first.
func none(workers int) *plain { return &plain{stacks: make([][]api.Handle, workers)} }

// count is how often h is protected.
func (p *plain) count(h api.Handle) int {
	n := 0
	for _, o := range p.protected {
		if o == h {
			n++
		}
	}
	return n
}

// held tells whether h is protected or on a stack.
func (p *plain) held(h api.Handle) bool {
	for _, stack := range p.stacks {
		if slices.Contains(stack, h) {
			return true
		}
	}
	return slices.Contains(p.protected, h)
}

// all is what All is to tell.
func (p *plain) all() []api.Count {
	sorted := slices.Clone(p.protected)
	slices.Sort(sorted)
	var l []api.Count
	for i, h := range sorted {
		if i == 0 || h != sorted[i-1] {
			l = append(l, api.Count{H: h, N: p.count(h)})
		}
	}
	return l
}

// roots is what Roots is to tell: of all that come in question those that are held.
func (p *plain) roots() []api.Handle {
	asked := slices.Concat(p.stacks...)
	asked = append(asked, p.protected...)
	slices.Sort(asked)
	var l []api.Handle
	for i, h := range asked {
		if h > 1 && (i == 0 || h != asked[i-1]) && p.held(h) {
			l = append(l, h)
		}
	}
	return l
}

// expect fails unless r tells what p does, in each of the calls that leave it as it is.
func expect(t *testing.T, r *refs.Refs, p *plain, behind string) {
	t.Helper()
	if got, want := r.All(), p.all(); !slices.Equal(got, want) {
		t.Fatalf("behind %s: All %v, want %v", behind, got, want)
	}
	if got, want := r.Roots(), p.roots(); !slices.Equal(got, want) {
		t.Fatalf("behind %s: Roots %v, want %v", behind, got, want)
	}
	for _, h := range slices.Concat(handles, p.protected, slices.Concat(p.stacks...)) {
		if got, want := r.Count(h), p.count(h); got != want {
			t.Fatalf("behind %s: Count(%d) = %d, want %d", behind, h, got, want)
		}
	}
	for worker, stack := range p.stacks {
		if got := r.Depth(worker); got != len(stack) {
			t.Fatalf("behind %s: Depth(%d) = %d, want %d", behind, worker, got, len(stack))
		}
	}
}

// protect has h protected once more, by both.
func protect(t *testing.T, r *refs.Refs, p *plain, h api.Handle) {
	t.Helper()
	r.Protect(h)
	p.protected = append(p.protected, h)
	expect(t, r, p, "Protect")
}

// unprotect has h protected once less, by both, or fails unless r answers that it isn't protected.
func unprotect(t *testing.T, r *refs.Refs, p *plain, h api.Handle) {
	t.Helper()
	want := api.ErrNone
	if i := slices.Index(p.protected, h); i >= 0 {
		want = api.OK
		p.protected = slices.Delete(p.protected, i, i+1)
	}
	if got := r.Unprotect(h); got != want {
		t.Fatalf("Unprotect(%d): %v, want %v", h, got, want)
	}
	expect(t, r, p, "Unprotect")
}

// push lays h on the worker's stack, in both, or fails unless r answers that there is no such worker.
func push(t *testing.T, r *refs.Refs, p *plain, worker int, h api.Handle) {
	t.Helper()
	there := worker >= 0 && worker < len(p.stacks)
	if there {
		p.stacks[worker] = append(p.stacks[worker], h)
	}
	if got := r.Push(worker, h); got != there {
		t.Fatalf("Push(%d, %d): %v, want %v", worker, h, got, there)
	}
	expect(t, r, p, "Push")
}

// pop takes the last one from the worker's stack, in both, or fails unless r answers that there is none.
func pop(t *testing.T, r *refs.Refs, p *plain, worker int) {
	t.Helper()
	var want api.Handle
	some := worker >= 0 && worker < len(p.stacks) && len(p.stacks[worker]) > 0
	if some {
		last := len(p.stacks[worker]) - 1
		want = p.stacks[worker][last]
		p.stacks[worker] = p.stacks[worker][:last]
	}
	if got, ok := r.Pop(worker); got != want || ok != some {
		t.Fatalf("Pop(%d): %d, %v, want %d, %v", worker, got, ok, want, some)
	}
	expect(t, r, p, "Pop")
}

// draw is a row of numbers without a pattern.
type draw uint64

func (d *draw) next(below int) int {
	*d = *d*6364136223846793005 + 1442695040888963407
	return int(uint64(*d) >> 33 % uint64(below))
}

// workers fails unless r has just so many of them: each has a stack of its own, and no other number has one.
func workers(t *testing.T, r *refs.Refs, want int) {
	t.Helper()
	p := none(want)
	expect(t, r, p, "New")
	for worker := range want {
		for k := range worker + 1 {
			push(t, r, p, worker, api.Handle(10*worker+k+2))
		}
	}
	for _, worker := range append(beyond(want), below...) {
		if got := r.Depth(worker); got != 0 {
			t.Fatalf("%d workers: Depth(%d) = %d", want, worker, got)
		}
		push(t, r, p, worker, 9)
		if got := r.Depth(worker); got != 0 {
			t.Fatalf("%d workers: Depth(%d) = %d behind Push", want, worker, got)
		}
		pop(t, r, p, worker)
	}
	for worker := range want {
		for range worker + 2 {
			pop(t, r, p, worker)
		}
	}
	expect(t, r, none(want), "the last Pop")
}

// P9.1: the number of workers is held from 1 to MaxWorkers; of what lies outside there is no stack, and nothing is changed.
func TestNew(t *testing.T) {
	for n := 1; n <= api.MaxWorkers; n++ {
		workers(t, refs.New(n), n)
	}
	for _, n := range append([]int{0}, below...) {
		workers(t, refs.New(n), 1)
	}
	for _, n := range beyond(api.MaxWorkers) {
		workers(t, refs.New(n), api.MaxWorkers)
	}
}

// P9.1: at first nothing is protected and nothing on a stack, and nothing can be taken away.
func TestNothing(t *testing.T) {
	for n := 1; n <= api.MaxWorkers; n++ {
		r, p := refs.New(n), none(n)
		if len(r.All()) != 0 || len(r.Roots()) != 0 {
			t.Errorf("%d workers: All %v, Roots %v at first", n, r.All(), r.Roots())
		}
		for _, h := range handles {
			unprotect(t, r, p, h)
		}
		for worker := range n {
			pop(t, r, p, worker)
		}
	}
}

// P9.1, and DOC.md's rule 1: what New didn't make has no worker, and answers to each call.
func TestZero(t *testing.T) {
	var r refs.Refs
	p := none(0)
	expect(t, &r, p, "no New")
	unprotect(t, &r, p, 5)
	for _, worker := range append(beyond(0), below...) {
		push(t, &r, p, worker, 5)
		pop(t, &r, p, worker)
	}
	protect(t, &r, p, 5)
	unprotect(t, &r, p, 5)
}

// P9.1: the chapter's example.
func TestExample(t *testing.T) {
	r := refs.New(1)
	r.Protect(5)
	r.Protect(5)
	if err := r.Unprotect(5); err != api.OK || r.Count(5) != 1 {
		t.Errorf("Unprotect(5): %v, Count(5) = %d", err, r.Count(5))
	}
}

// P9.1: each handle is counted for itself, the constants and the greatest one too; unprotected as often as it was protected it isn't any more, and is once more if it is protected again.
func TestProtect(t *testing.T) {
	r, p := refs.New(2), none(2)
	for i, h := range handles {
		for range i + 1 {
			protect(t, r, p, h)
		}
	}
	for i, h := range handles {
		for range i + 3 {
			unprotect(t, r, p, h)
		}
		protect(t, r, p, h)
		if r.Count(h) != 1 {
			t.Errorf("Count(%d) = %d, but it is protected once", h, r.Count(h))
		}
		unprotect(t, r, p, h)
	}
	expect(t, r, none(2), "the last Unprotect")
}

// P9.1: what was never protected, and what isn't any more, is refused, however often, and the others keep their counts.
func TestUnprotectOfNone(t *testing.T) {
	r, p := refs.New(1), none(1)
	protect(t, r, p, 7)
	protect(t, r, p, 9)
	protect(t, r, p, 9)
	unprotect(t, r, p, 7)
	for range 3 {
		for _, h := range []api.Handle{7, 6, 8, 10, 0, 1, greatest} {
			unprotect(t, r, p, h)
		}
	}
	if r.Count(7) != 0 || r.Count(9) != 2 {
		t.Errorf("Count(7) = %d, Count(9) = %d", r.Count(7), r.Count(9))
	}
	protect(t, r, p, 7)
	if r.Count(7) != 1 {
		t.Errorf("Count(7) = %d behind refusals and one Protect", r.Count(7))
	}
}

// P9.1: a handle may be protected more often than a small number holds.
func TestProtectOften(t *testing.T) {
	const often = 1<<16 + 3
	r := refs.New(1)
	for range often {
		r.Protect(4)
	}
	if r.Count(4) != often || !slices.Equal(r.All(), []api.Count{{H: 4, N: often}}) {
		t.Fatalf("Count %d, All %v, want %d", r.Count(4), r.All(), often)
	}
	for range often {
		if r.Unprotect(4) != api.OK {
			t.Fatal("Unprotect of what is protected")
		}
	}
	if r.Unprotect(4) != api.ErrNone || len(r.All()) != 0 {
		t.Errorf("All %v behind the last Unprotect", r.All())
	}
}

// P9.1: a stack gives the last one first, each as often as it was pushed, and the other stacks stay.
func TestStacks(t *testing.T) {
	r, p := refs.New(api.MaxWorkers), none(api.MaxWorkers)
	for worker := range api.MaxWorkers {
		for _, h := range handles {
			push(t, r, p, worker, h+api.Handle(worker))
			push(t, r, p, worker, 77)
		}
	}
	for _, worker := range []int{2, 0, 3, 1} {
		for range 2*len(handles) + 2 {
			pop(t, r, p, worker)
		}
		push(t, r, p, worker, 5)
		pop(t, r, p, worker)
	}
	expect(t, r, none(api.MaxWorkers), "the last Pop")
}

// P9.1: a 0 that was pushed is told apart from none by the bool alone.
func TestPopOfZero(t *testing.T) {
	r := refs.New(1)
	r.Push(0, 0)
	if h, ok := r.Pop(0); h != 0 || !ok {
		t.Errorf("Pop %d, %v of a 0", h, ok)
	}
	if h, ok := r.Pop(0); h != 0 || ok {
		t.Errorf("Pop %d, %v of none", h, ok)
	}
}

// P9.1: a stack is as deep as one likes, and what is on it doesn't hang on how it has grown.
func TestDeepStack(t *testing.T) {
	const deep = 1 << 16
	r := refs.New(2)
	for i := range deep {
		if !r.Push(1, api.Handle(i)) {
			t.Fatalf("Push at %d", i)
		}
	}
	if r.Depth(1) != deep || r.Depth(0) != 0 || len(r.Roots()) != deep-2 {
		t.Fatalf("Depth %d and %d, %d roots", r.Depth(1), r.Depth(0), len(r.Roots()))
	}
	for i := deep - 1; i >= 0; i-- {
		if h, ok := r.Pop(1); h != api.Handle(i) || !ok || r.Depth(1) != i {
			t.Fatalf("Pop %d, %v, then Depth %d, want %d", h, ok, r.Depth(1), i)
		}
	}
}

// P9.1: a stack neither protects nor is touched by what is protected.
func TestStackAndCounts(t *testing.T) {
	r, p := refs.New(2), none(2)
	push(t, r, p, 1, 6)
	unprotect(t, r, p, 6)
	protect(t, r, p, 8)
	pop(t, r, p, 0)
	push(t, r, p, 0, 8)
	unprotect(t, r, p, 8)
	unprotect(t, r, p, 8)
	pop(t, r, p, 0)
	pop(t, r, p, 1)
	expect(t, r, none(2), "the last Pop")
}

// P9.1: All tells the constants if they are protected, and what is on a stack alone it doesn't tell.
func TestAll(t *testing.T) {
	r := refs.New(2)
	for _, h := range []api.Handle{greatest, 9, 0, 9, 1, 1 << 31, 0, 9, 2} {
		r.Protect(h)
	}
	r.Push(0, 5)
	r.Push(1, 9)
	want := []api.Count{{H: 0, N: 2}, {H: 1, N: 1}, {H: 2, N: 1}, {H: 9, N: 3}, {H: 1 << 31, N: 1}, {H: greatest, N: 1}}
	if got := r.All(); !slices.Equal(got, want) {
		t.Errorf("All %v, want %v", got, want)
	}
}

// P9.1: Roots tells each once, by handle: what is protected alone, on one stack alone, and on several, several times, and protected too.
func TestRoots(t *testing.T) {
	r := refs.New(4)
	for _, h := range []api.Handle{greatest, 9, 9, 4} {
		r.Protect(h)
	}
	for _, on := range []struct {
		worker int
		h      api.Handle
	}{{3, 9}, {0, 1 << 31}, {0, 2}, {1, 7}, {1, 7}, {2, 7}, {3, 7}, {3, 4}, {2, greatest}} {
		r.Push(on.worker, on.h)
	}
	want := []api.Handle{2, 4, 7, 9, 1 << 31, greatest}
	if got := r.Roots(); !slices.Equal(got, want) {
		t.Errorf("Roots %v, want %v", got, want)
	}
}

// P9.1: the constants are no roots, wherever they are held, alone and beside others.
func TestConstantsAreNoRoots(t *testing.T) {
	for _, h := range []api.Handle{api.False, api.True} {
		for _, others := range [][]api.Handle{nil, {2}, {2, 3, greatest}} {
			r := refs.New(2)
			r.Protect(h)
			r.Protect(h)
			r.Push(0, h)
			r.Push(1, h)
			for _, o := range others {
				r.Push(1, o)
			}
			if got := r.Roots(); !slices.Equal(got, others) {
				t.Errorf("%d held beside %v: Roots %v", h, others, got)
			}
			if r.Count(h) != 2 || r.Depth(0) != 1 {
				t.Errorf("%d: Count %d, Depth %d", h, r.Count(h), r.Depth(0))
			}
		}
	}
}

// spoil writes over a list and the spare room behind it.
func spoil[T any](l []T, v T) {
	whole := l[:cap(l)]
	for i := range whole {
		whole[i] = v
	}
	_ = append(l, v)
}

// P9.1, and DOC.md's rule 3: what All and Roots tell is new memory, its spare room too: neither what is held nor another answer follows it, and it follows nothing.
func TestAnswersAreNew(t *testing.T) {
	for n := range 9 {
		r, p := refs.New(2), none(2)
		for i := range n {
			protect(t, r, p, api.Handle(2*i))
			push(t, r, p, i%2, api.Handle(3*i))
			push(t, r, p, 0, api.Handle(3*i))
		}
		all, roots := r.All(), r.Roots()
		spoil(r.All(), api.Count{H: 66, N: 66})
		spoil(r.Roots(), 66)
		expect(t, r, p, "writes to answers")
		wantAll, wantRoots := p.all(), p.roots()
		protect(t, r, p, 1000)
		push(t, r, p, 1, 1001)
		unprotect(t, r, p, 0)
		pop(t, r, p, 0)
		push(t, r, p, 0, 1002)
		if !slices.Equal(all, wantAll) || !slices.Equal(roots, wantRoots) {
			t.Errorf("earlier answers are %v, %v, want %v, %v", all, roots, wantAll, wantRoots)
		}
	}
}

// P9.1, and DOC.md's rule 3: where a single stack is all that there is, Roots isn't that stack.
func TestRootsIsNotTheStack(t *testing.T) {
	r, p := refs.New(1), none(1)
	for _, h := range []api.Handle{9, 5, 7, 5} {
		push(t, r, p, 0, h)
	}
	spoil(r.Roots(), 66)
	for range 5 {
		pop(t, r, p, 0)
	}
}

// P9.1: what one is told, another one doesn't hold.
func TestApart(t *testing.T) {
	a, b := refs.New(2), refs.New(2)
	p, q := none(2), none(2)
	protect(t, a, p, 5)
	push(t, a, p, 1, 6)
	expect(t, b, q, "calls to another one")
	unprotect(t, b, q, 5)
	pop(t, b, q, 1)
	protect(t, b, q, 5)
	protect(t, b, q, 5)
	push(t, b, q, 1, 7)
	expect(t, a, p, "calls to another one")
	unprotect(t, a, p, 5)
	pop(t, a, p, 1)
	expect(t, b, q, "calls to another one")
	expect(t, refs.New(2), none(2), "calls to elder ones")
}

// P9.2: h is a root from its first hold on until its last one is let go, in whatever order it is held and let go: protected, and on two stacks.
func TestRootUntilTheLastHold(t *testing.T) {
	holds := []func(r *refs.Refs, h api.Handle){
		func(r *refs.Refs, h api.Handle) { r.Protect(h) },
		func(r *refs.Refs, h api.Handle) { r.Protect(h) },
		func(r *refs.Refs, h api.Handle) { r.Push(0, h) },
		func(r *refs.Refs, h api.Handle) { r.Push(1, h) },
	}
	lets := []func(r *refs.Refs, h api.Handle){
		func(r *refs.Refs, h api.Handle) { r.Unprotect(h) },
		func(r *refs.Refs, h api.Handle) { r.Unprotect(h) },
		func(r *refs.Refs, h api.Handle) { r.Pop(0) },
		func(r *refs.Refs, h api.Handle) { r.Pop(1) },
	}
	for _, h := range []api.Handle{2, 3, 1 << 28, greatest} {
		permutations(len(holds), func(in []int) {
			permutations(len(lets), func(out []int) {
				r := refs.New(2)
				for _, i := range in {
					holds[i](r, h)
					isRoot(t, r, h, true)
				}
				for k, i := range out {
					lets[i](r, h)
					isRoot(t, r, h, k < len(out)-1)
				}
			})
		})
	}
}

// isRoot fails unless h is the only root, or there is none.
func isRoot(t *testing.T, r *refs.Refs, h api.Handle, want bool) {
	t.Helper()
	got := r.Roots()
	if want && !slices.Equal(got, []api.Handle{h}) || !want && len(got) != 0 {
		t.Fatalf("Roots %v, but %d is one: %v", got, h, want)
	}
}

// permutations calls do with each order of 0 .. n-1.
func permutations(n int, do func(l []int)) {
	var lay func(l []int, k int)
	lay = func(l []int, k int) {
		if k == n {
			do(l)
			return
		}
		for i := k; i < n; i++ {
			m := slices.Clone(l)
			m[k], m[i] = m[i], m[k]
			lay(m, k+1)
		}
	}
	l := make([]int, n)
	for i := range l {
		l[i] = i
	}
	lay(l, 0)
}

// P9.2: a call that is refused takes nobody's hold away.
func TestRefusalsLetNothingGo(t *testing.T) {
	r, p := refs.New(2), none(2)
	protect(t, r, p, 5)
	push(t, r, p, 1, 6)
	for _, h := range append([]api.Handle{4, 6, 7}, handles...) {
		unprotect(t, r, p, h)
	}
	for _, worker := range append(append(beyond(2), below...), 0) {
		pop(t, r, p, worker)
	}
	if got := r.Roots(); !slices.Equal(got, []api.Handle{5, 6}) {
		t.Errorf("Roots %v, want 5 and 6", got)
	}
}

// step does one call to r, chosen by d, and to the lists the same.
func step(t *testing.T, r *refs.Refs, p *plain, d *draw, from []api.Handle) {
	t.Helper()
	h, worker := from[d.next(len(from))], d.next(len(p.stacks)+2)-1
	switch d.next(9) {
	case 0, 1:
		protect(t, r, p, h)
	case 2, 3:
		unprotect(t, r, p, h)
	case 4, 5, 6:
		push(t, r, p, worker, h)
	default:
		pop(t, r, p, worker)
	}
}

// P9.1, P9.2: long rows of all calls against lists that are gone through each time: at each moment the roots are just what is held.
func TestLongRow(t *testing.T) {
	d := draw(9)
	for n := 1; n <= api.MaxWorkers; n++ {
		for _, from := range [][]api.Handle{{2}, {0, 1, 2}, {5, 3, 4, 1}, handles} {
			for range 10 {
				r, p := refs.New(n), none(n)
				for range 300 {
					step(t, r, p, &d, from)
				}
			}
		}
	}
}

// P9.1, and DOC.md's rule 6: the same calls are told the same, as often as one asks, however many handles there are.
func TestSameAnswers(t *testing.T) {
	const many = 2000
	a, b := refs.New(3), refs.New(3)
	for i := range many {
		h := api.Handle(i*7919%many + 2)
		a.Protect(h)
		a.Push(i%3, h+many/2)
		b.Protect(many + 3 - h)
		b.Push(i%2, many+3-h+many/2)
	}
	all, roots := a.All(), a.Roots()
	if len(all) != many || len(roots) != many+many/2 {
		t.Fatalf("%d protected, %d roots", len(all), len(roots))
	}
	for range 5 {
		if !slices.Equal(a.All(), all) || !slices.Equal(b.All(), all) {
			t.Fatal("All tells one thing in two ways")
		}
		if !slices.Equal(a.Roots(), roots) || !slices.Equal(b.Roots(), roots) {
			t.Fatal("Roots tells one thing in two ways")
		}
	}
}
