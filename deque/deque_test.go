package deque_test

import (
	"math"
	"slices"
	"sync"
	"testing"

	"spinney/api"
	"spinney/deque"
	"spinney/mem"
)

// bound is the most steps that an act may take.
const bound = 16

// laid is a deque in the cells from base on, with some cells to spare behind it.
func laid(t *testing.T, base, size int) (*mem.Mem, *deque.Deque) {
	t.Helper()
	m := mem.New(base + deque.Cells(size) + 3)
	d, err := deque.New(m, base, size)
	if err != api.OK || d == nil {
		t.Fatalf("New(%d, %d): %v", base, size, err)
	}
	return m, d
}

// cells is what all cells hold.
func cells(m *mem.Mem) []uint64 {
	var l []uint64
	for i := range m.Len() {
		l = append(l, m.Load(i))
	}
	return l
}

// step makes one step of a; it fails on a second access, and on an answer that isn't Done's.
func step(t *testing.T, m *mem.Mem, a *deque.Act) bool {
	t.Helper()
	ops := m.Ops()
	done := a.Step()
	if n := m.Ops() - ops; n > 1 {
		t.Fatalf("%d accesses in one step", n)
	}
	if done != a.Done() {
		t.Fatalf("Step tells %v, Done %v", done, a.Done())
	}
	return done
}

// run steps a to its end, and tells what it got; it fails past the bound, and if something is told ahead of the end.
func run(t *testing.T, m *mem.Mem, a *deque.Act) (uint64, bool) {
	t.Helper()
	for n := 0; !a.Done(); n++ {
		if n == bound {
			t.Fatalf("not done after %d steps", n)
		}
		told(t, a, 0, false)
		step(t, m, a)
	}
	return a.Got()
}

// told fails unless a tells just this.
func told(t *testing.T, a *deque.Act, value uint64, got bool) {
	t.Helper()
	if v, ok := a.Got(); v != value || ok != got {
		t.Fatalf("Got %#x %v, want %#x %v", v, ok, value, got)
	}
}

// gets runs a to its end, and fails unless it got the value.
func gets(t *testing.T, m *mem.Mem, a *deque.Act, value uint64) {
	t.Helper()
	run(t, m, a)
	told(t, a, value, true)
}

// fails runs a to its end, and fails if it got something.
func fails(t *testing.T, m *mem.Mem, a *deque.Act) {
	t.Helper()
	run(t, m, a)
	told(t, a, 0, false)
}

// long fails unless so many values are there.
func long(t *testing.T, d *deque.Deque, n int) {
	t.Helper()
	if d.Len() != n {
		t.Fatalf("Len %d, want %d", d.Len(), n)
	}
}

// push pushes the values, for which there is room.
func push(t *testing.T, m *mem.Mem, d *deque.Deque, values ...uint64) {
	t.Helper()
	for _, v := range values {
		gets(t, m, d.Push(v), v)
	}
}

// ends are words whose bits, halves or signs are at an end.
func ends() []uint64 {
	return []uint64{
		0, 1, 2, math.MaxUint64, math.MaxUint64 - 1, 1 << 63, math.MaxInt64,
		1 << 32, 1<<32 - 1, 1<<32 + 1, math.MaxUint32 << 32, 1 << 31, 1 << 33,
	}
}

// draw is a row of numbers that look drawn.
type draw uint64

func (d *draw) next(below int) int {
	*d = *d*6364136223846793005 + 1442695040888963407
	return int(uint64(*d)>>33) % below
}

// P8.1: from size to size + 8 cells; 0 of less than one; also where size + 8 is no int.
func TestCells(t *testing.T) {
	for _, size := range []int{0, -1, -2, -3, -8, -9, -256, math.MinInt / 2, math.MinInt + 8, math.MinInt + 1, math.MinInt} {
		if n := deque.Cells(size); n != 0 {
			t.Errorf("Cells(%d): %d", size, n)
		}
	}
	for _, size := range []int{1, 2, 3, 5, api.MaxDeque - 1, api.MaxDeque, api.MaxDeque + 1, api.MaxCells, math.MaxInt / 2, math.MaxInt - 9, math.MaxInt - 8, math.MaxInt - 3, math.MaxInt - 2, math.MaxInt - 1, math.MaxInt} {
		if n := deque.Cells(size); n < size || n-size > 8 {
			t.Errorf("Cells(%d): %d", size, n)
		}
	}
}

// P8.1: ErrNone with size below 1 or above MaxDeque, and if one of the cells isn't there; the last cells that are there will do.
func TestNewWithinTheCells(t *testing.T) {
	one, five, most := deque.Cells(1), deque.Cells(5), deque.Cells(api.MaxDeque)
	cases := []struct {
		cells, base, size int
		want              api.Errno
	}{
		{one, 0, 1, api.OK}, {one + 7, 7, 1, api.OK}, {five, 0, 5, api.OK}, {five + 9, 9, 5, api.OK}, {five + 9, 4, 5, api.OK},
		{one - 1, 0, 1, api.ErrNone}, {one, 1, 1, api.ErrNone}, {five - 1, 0, 5, api.ErrNone}, {five + 8, 9, 5, api.ErrNone}, {five, five, 5, api.ErrNone}, {five, five + 1, 1, api.ErrNone},
		{five, 0, 0, api.ErrNone}, {five, five, 0, api.ErrNone}, {five, 0, -1, api.ErrNone}, {five, 0, -5, api.ErrNone}, {five, 0, math.MinInt, api.ErrNone},
		{five, -1, 1, api.ErrNone}, {five, -1, 5, api.ErrNone}, {five, -one, 1, api.ErrNone}, {five, math.MinInt, 1, api.ErrNone}, {five, math.MinInt + 3, 5, api.ErrNone},
		{0, 0, 1, api.ErrNone}, {0, 0, 0, api.ErrNone}, {-3, -3, 1, api.ErrNone},
		{five, math.MaxInt, 1, api.ErrNone}, {five, math.MaxInt - one, 1, api.ErrNone}, {five, 0, math.MaxInt, api.ErrNone}, {five, math.MaxInt, math.MaxInt, api.ErrNone},
		{five, 0, math.MaxInt - 1, api.ErrNone}, {five, math.MinInt, math.MinInt, api.ErrNone}, {five, math.MinInt, math.MaxInt, api.ErrNone},
		{most, 0, api.MaxDeque, api.OK}, {most - 1, 0, api.MaxDeque, api.ErrNone}, {most, 0, api.MaxDeque - 1, api.OK},
		{api.MaxCells, 0, api.MaxDeque, api.OK}, {api.MaxCells, api.MaxCells - most, api.MaxDeque, api.OK}, {api.MaxCells, api.MaxCells - most + 1, api.MaxDeque, api.ErrNone},
		{api.MaxCells, 0, api.MaxDeque + 1, api.ErrNone}, {api.MaxCells, 0, 2 * api.MaxDeque, api.ErrNone},
	}
	for _, k := range cases {
		m := mem.New(k.cells)
		d, err := deque.New(m, k.base, k.size)
		if err != k.want || (d == nil) != (k.want != api.OK) {
			t.Errorf("New(%d cells, %d, %d): %v, %v, want %v", k.cells, k.base, k.size, d != nil, err, k.want)
		}
	}
}

// P8.1, P8.2: cells that are all 0 are an empty deque: nothing is popped or stolen, however often, and it is an empty one behind that.
func TestEmpty(t *testing.T) {
	for _, size := range []int{1, 2, 7, api.MaxDeque} {
		m, d := laid(t, 3, size)
		long(t, d, 0)
		for range 3*size + 5 {
			fails(t, m, d.Pop())
			long(t, d, 0)
			fails(t, m, d.Steal())
			long(t, d, 0)
		}
		push(t, m, d, 8)
		long(t, d, 1)
		gets(t, m, d.Steal(), 8)
		fails(t, m, d.Steal())
		fails(t, m, d.Pop())
		push(t, m, d, 9)
		gets(t, m, d.Pop(), 9)
		fails(t, m, d.Pop())
		fails(t, m, d.Steal())
		long(t, d, 0)
	}
}

// P8.1: acts that were made have done nothing yet, and aren't done.
func TestActsDoNothing(t *testing.T) {
	m, d := laid(t, 2, 3)
	for range 2 {
		ops := m.Ops()
		for _, v := range ends() {
			for i, a := range []*deque.Act{d.Push(v), d.Pop(), d.Steal()} {
				if a.Done() {
					t.Errorf("act %d is done", i)
				}
				told(t, a, 0, false)
			}
		}
		if m.Ops() != ops {
			t.Errorf("%d accesses", m.Ops()-ops)
		}
		push(t, m, d, 5)
	}
	long(t, d, 2)
	gets(t, m, d.Pop(), 5)
	gets(t, m, d.Steal(), 5)
	fails(t, m, d.Steal())
}

// P8.1: an act that was made long ago does its work when it is stepped.
func TestActsThatWait(t *testing.T) {
	m, d := laid(t, 0, 2)
	pushes, pop, steal := []*deque.Act{d.Push(1), d.Push(2), d.Push(3)}, d.Pop(), d.Steal()
	gets(t, m, pushes[1], 2)
	gets(t, m, pushes[2], 3)
	fails(t, m, pushes[0])
	gets(t, m, steal, 2)
	gets(t, m, pop, 3)
	long(t, d, 0)
}

// P8.1, P8.2: done, an act tells true at each step, makes no access, and tells what it told.
func TestStepsBehindTheEnd(t *testing.T) {
	m, d := laid(t, 1, 2)
	acts := []*deque.Act{
		d.Pop(), d.Steal(), d.Push(7), d.Push(8), d.Push(9), d.Pop(), d.Push(0), d.Steal(), d.Steal(), d.Push(6), d.Pop(), d.Steal(), d.Pop(),
	}
	want := []struct {
		value uint64
		got   bool
	}{{}, {}, {7, true}, {8, true}, {}, {8, true}, {0, true}, {7, true}, {0, true}, {6, true}, {6, true}, {}, {}}
	for i, a := range acts {
		run(t, m, a)
		told(t, a, want[i].value, want[i].got)
		was := cells(m)
		ops := m.Ops()
		for range 20 {
			if !a.Step() || !a.Done() {
				t.Fatalf("act %d isn't done any more", i)
			}
			told(t, a, want[i].value, want[i].got)
		}
		if m.Ops() != ops || !slices.Equal(cells(m), was) {
			t.Errorf("act %d: steps behind the end do something", i)
		}
	}
	for i, a := range acts {
		told(t, a, want[i].value, want[i].got)
	}
}

// P8.2: the example: the last one pops first, the first one is stolen first.
func TestExample(t *testing.T) {
	m, d := laid(t, 0, 3)
	push(t, m, d, 1, 2, 3)
	gets(t, m, d.Pop(), 3)
	gets(t, m, d.Steal(), 1)
	long(t, d, 1)
	gets(t, m, d.Pop(), 2)
	long(t, d, 0)
}

// P8.2: each word is a value, 0 and the greatest one too, by whichever way it is taken.
func TestValues(t *testing.T) {
	for _, size := range []int{1, 2, len(ends())} {
		m, d := laid(t, 2, size)
		for _, v := range ends() {
			push(t, m, d, v)
			gets(t, m, d.Pop(), v)
			push(t, m, d, v)
			gets(t, m, d.Steal(), v)
		}
		push(t, m, d, ends()[:size]...)
		for _, v := range ends()[:size] {
			gets(t, m, d.Steal(), v)
		}
		push(t, m, d, ends()[:size]...)
		for _, v := range slices.Backward(ends()[:size]) {
			gets(t, m, d.Pop(), v)
		}
		for range size {
			push(t, m, d, 4)
		}
		for n := range size {
			long(t, d, size-n)
			gets(t, m, d.Steal(), 4)
		}
		long(t, d, 0)
	}
}

// P8.2, P8.3: a full deque takes nothing, and isn't changed by what it refuses; it takes again once one was popped or stolen.
func TestFull(t *testing.T) {
	for _, size := range []int{1, 2, 3, 8, 9, api.MaxDeque - 1, api.MaxDeque} {
		m, d := laid(t, 1, size)
		for n := range size {
			long(t, d, n)
			push(t, m, d, uint64(n))
		}
		refused := func() {
			was := cells(m)
			for _, v := range []uint64{0, 5, math.MaxUint64} {
				fails(t, m, d.Push(v))
			}
			long(t, d, size)
			if !slices.Equal(cells(m), was) {
				t.Fatalf("size %d: a Push that failed has written", size)
			}
		}
		refused()
		gets(t, m, d.Pop(), uint64(size-1))
		push(t, m, d, 1000)
		refused()
		first := uint64(0)
		if size == 1 {
			first = 1000
		}
		gets(t, m, d.Steal(), first)
		push(t, m, d, 1001)
		refused()
		gets(t, m, d.Pop(), 1001)
		long(t, d, size-1)
	}
}

// P8.2: pushes, pops and steals far more often than there are places, at each filling.
func TestManyLaps(t *testing.T) {
	for _, size := range []int{1, 2, 3, 5, 7, 16, api.MaxDeque} {
		for _, held := range []int{0, 1, size / 2, size - 1} {
			m, d := laid(t, 0, size)
			next, first := uint64(0), uint64(0)
			for range min(held, size-1) {
				push(t, m, d, next)
				next++
			}
			for range 4*size + 30 {
				push(t, m, d, next)
				next++
				gets(t, m, d.Steal(), first)
				first++
			}
			for range 4*size + 30 {
				push(t, m, d, 77)
				gets(t, m, d.Pop(), 77)
			}
			long(t, d, int(next-first))
			for ; first < next; first++ {
				gets(t, m, d.Steal(), first)
			}
			fails(t, m, d.Steal())
		}
	}
}

// P8.2: long rows of acts, one behind the other, against a list.
func TestLongRows(t *testing.T) {
	d := draw(7)
	for round := range 80 {
		size := 1 + d.next(5)
		if round%20 == 0 {
			size = api.MaxDeque
		}
		m, q := laid(t, d.next(4), size)
		var list []uint64
		for n := range 1500 {
			var value uint64
			var got bool
			a := q.Steal()
			// The weights turn, so that it is filled and emptied.
			switch k := d.next(6); {
			case k < 2+n/300%3:
				value = ends()[d.next(13)]
				a, got = q.Push(value), len(list) < size
				if got {
					list = append(list, value)
				}
			case len(list) > 0 && k%2 == 0:
				last := len(list) - 1
				a, value, got = q.Pop(), list[last], true
				list = list[:last]
			case k%2 == 0:
				a = q.Pop()
			case len(list) > 0:
				value, got = list[0], true
				list = list[1:]
			}
			if !got {
				value = 0
			}
			run(t, m, a)
			told(t, a, value, got)
			long(t, q, len(list))
		}
	}
}

// Kinds of acts.
const (
	pushing = iota
	popping
	stealing
)

// doing is an act of a crowd, and when it was under way: moments are the crowd's steps, from 1 on.
type doing struct {
	kind         int
	act          *deque.Act
	steps        int
	began, ended int
	value        uint64 // that is pushed; or that was taken
	got          bool
	there        int // how many there were at its beginning, those that were being taken counted in
}

// crowd is an owner and thieves who share a deque. Each value is pushed once.
type crowd struct {
	m     *mem.Mem
	d     *deque.Deque
	size  int
	now   int
	value uint64 // the last one that was to be pushed
	acts  []*doing
}

// gather is a crowd whose deque holds so many values, and whose ring was gone round so far.
func gather(t *testing.T, size, held, turned int) *crowd {
	m, d := laid(t, 2, size)
	c := &crowd{m: m, d: d, size: size}
	for range turned {
		c.finish(t, c.begin(pushing))
		c.finish(t, c.begin(stealing))
	}
	for range held {
		c.finish(t, c.begin(pushing))
	}
	return c
}

// begin makes an act that has done nothing yet.
func (c *crowd) begin(kind int) *doing {
	a := &doing{kind: kind}
	switch kind {
	case pushing:
		c.value++
		a.value = c.value
		a.act = c.d.Push(a.value)
	case popping:
		a.act = c.d.Pop()
	default:
		a.act = c.d.Steal()
	}
	c.acts = append(c.acts, a)
	return a
}

// there tells how many values are pushed and not taken; those that are being taken are counted in.
func (c *crowd) there() int {
	n := 0
	for _, a := range c.acts {
		switch {
		case a.ended == 0 || !a.got:
		case a.kind == pushing:
			n++
		default:
			n--
		}
	}
	return n
}

// step makes a step of the act, which must be done in time and tell nothing sooner.
func (c *crowd) step(t *testing.T, a *doing) {
	t.Helper()
	c.now++
	if a.began == 0 {
		a.began, a.there = c.now, c.there()
	}
	if a.steps++; a.steps > bound {
		t.Fatalf("an act of kind %d takes more than %d steps", a.kind, bound)
	}
	if !step(t, c.m, a.act) {
		told(t, a.act, 0, false)
		return
	}
	a.ended = c.now
	v, got := a.act.Got()
	if a.kind == pushing && got && v != a.value || !got && v != 0 {
		t.Fatalf("an act of kind %d tells %d, %v", a.kind, v, got)
	}
	a.got = got
	if a.kind != pushing {
		a.value = v
	}
}

// some makes so many steps of the act, or fewer, if it is done.
func (c *crowd) some(t *testing.T, a *doing, steps int) {
	t.Helper()
	for range steps {
		if a.ended == 0 {
			c.step(t, a)
		}
	}
}

// finish steps the act to its end.
func (c *crowd) finish(t *testing.T, a *doing) *doing {
	t.Helper()
	c.some(t, a, bound+1)
	return a
}

// takers is who took each value. None is taken twice; none that no Push which had begun put there.
func (c *crowd) takers(t *testing.T) map[uint64]*doing {
	t.Helper()
	pushed, took := map[uint64]*doing{}, map[uint64]*doing{}
	for _, a := range c.acts {
		if a.kind == pushing && a.began > 0 {
			pushed[a.value] = a
		}
	}
	for _, a := range c.acts {
		if a.kind == pushing || !a.got {
			continue
		}
		p := pushed[a.value]
		if p == nil || p.began > a.ended || p.ended > 0 && !p.got {
			t.Fatalf("%d was taken, and wasn't pushed", a.value)
		}
		if took[a.value] != nil {
			t.Fatalf("%d was taken twice", a.value)
		}
		took[a.value] = a
	}
	return took
}

// failures is what an act that got nothing tells of the others, when none is under way any more.
func (c *crowd) failures(t *testing.T, took map[uint64]*doing) {
	t.Helper()
	for _, a := range c.acts {
		switch {
		case a.got:
		case a.kind == pushing && a.there != c.size:
			t.Fatalf("a Push failed with %d of %d there", a.there, c.size)
		case a.kind == popping:
			// Nothing is pushed meanwhile: if there ever was a moment at which all were taken or being taken, the Pop's last one was.
			for _, p := range c.acts {
				if p.kind == pushing && p.got && p.ended < a.began && (took[p.value] == nil || took[p.value].began > a.ended) {
					t.Fatalf("a Pop failed, and %d was there", p.value)
				}
			}
		}
	}
}

// rest is what holds when no act is under way any more: what isn't taken is there, in its order, and the deque is like others.
func (c *crowd) rest(t *testing.T, byPops bool) {
	t.Helper()
	took := c.takers(t)
	c.failures(t, took)
	var left []uint64
	for _, a := range c.acts {
		if a.kind == pushing && a.got && took[a.value] == nil {
			left = append(left, a.value)
		}
	}
	long(t, c.d, len(left))
	kind := stealing
	if byPops {
		kind = popping
		slices.Reverse(left)
	}
	for _, v := range left {
		if a := c.finish(t, c.begin(kind)); !a.got || a.value != v {
			t.Fatalf("%d, %v is there, want %d", a.value, a.got, v)
		}
	}
	long(t, c.d, 0)
	for range c.size {
		if a := c.finish(t, c.begin(pushing)); !a.got {
			t.Fatal("an empty deque has too little room")
		}
	}
	fails(t, c.m, c.d.Push(1))
	long(t, c.d, c.size)
}

// plan is a crowd's work: the owner's acts one behind the other, and how many steals each thief does.
type plan struct {
	size, held, turned int
	owner              []int
	thieves            []int
}

// hands is the kinds of acts of each hand, the owner's first.
func (p plan) hands() [][]int {
	hands := [][]int{p.owner}
	for _, n := range p.thieves {
		hands = append(hands, slices.Repeat([]int{stealing}, n))
	}
	return hands
}

// playing is a plan that is under way.
type playing struct {
	*crowd
	hands [][]int
	at    []*doing // of each hand the act that is under way, or nil
}

func (p plan) play(t *testing.T) *playing {
	t.Helper()
	hands := p.hands()
	return &playing{gather(t, p.size, p.held, p.turned), hands, make([]*doing, len(hands))}
}

// ready is the hands that have something to do.
func (p *playing) ready() []int {
	var l []int
	for i := range p.hands {
		if p.at[i] != nil || len(p.hands[i]) > 0 {
			l = append(l, i)
		}
	}
	return l
}

// turn makes a step of the hand.
func (p *playing) turn(t *testing.T, hand int) {
	t.Helper()
	if p.at[hand] == nil {
		p.at[hand] = p.begin(p.hands[hand][0])
		p.hands[hand] = p.hands[hand][1:]
	}
	p.step(t, p.at[hand])
	if p.at[hand].ended > 0 {
		p.at[hand] = nil
	}
}

// allTurns goes through all turns in which the plan's hands can be stepped to their ends; it tells how many there are.
func (p plan) allTurns(t *testing.T) int {
	t.Helper()
	n := 0
	// turns is what is played; choices is what could have been, at each turn.
	var turns []int
	for {
		playing := p.play(t)
		var choices [][]int
		for at := 0; ; at++ {
			ready := playing.ready()
			if len(ready) == 0 {
				break
			}
			if at == len(turns) {
				turns = append(turns, 0)
			}
			choices = append(choices, ready)
			playing.turn(t, ready[turns[at]])
		}
		playing.rest(t, n%2 == 0)
		n++
		for len(turns) > 0 && turns[len(turns)-1] == len(choices[len(turns)-1])-1 {
			turns = turns[:len(turns)-1]
		}
		if len(turns) == 0 {
			return n
		}
		turns[len(turns)-1]++
	}
}

// P8.3, P8.4: an owner and a thief, or several thieves, in all turns that there are: around the last value, a full deque, and a place that is filled anew.
func TestAllTurns(t *testing.T) {
	plans := []plan{
		{size: 1, held: 1, owner: []int{popping}, thieves: []int{1}},
		{size: 2, held: 1, owner: []int{popping}, thieves: []int{2}},
		{size: 2, held: 2, owner: []int{popping, popping}, thieves: []int{1}},
		{size: 3, held: 2, turned: 2, owner: []int{popping}, thieves: []int{2}},
		{size: 1, held: 0, owner: []int{pushing}, thieves: []int{2}},
		{size: 1, held: 1, owner: []int{pushing}, thieves: []int{2}},
		{size: 1, held: 1, owner: []int{pushing, pushing}, thieves: []int{1}},
		{size: 1, held: 1, owner: []int{popping, pushing}, thieves: []int{1}},
		{size: 1, held: 1, owner: []int{popping, pushing}, thieves: []int{2}},
		{size: 1, held: 0, owner: []int{popping, pushing, popping}, thieves: []int{1}},
		{size: 1, held: 1, owner: []int{popping, pushing, popping}, thieves: []int{1}},
		{size: 2, held: 2, turned: 1, owner: []int{pushing, popping, pushing}, thieves: []int{1}},
		{size: 2, held: 1, owner: []int{pushing, popping, popping}, thieves: []int{1}},
		{size: 2, held: 2, owner: []int{popping, popping, pushing}, thieves: []int{1}},
		{size: 1, held: 1, thieves: []int{1, 1}},
		{size: 2, held: 2, thieves: []int{1, 1}},
		{size: 3, held: 3, turned: 5, thieves: []int{1, 1}},
		{size: 1, held: 1, owner: []int{popping}, thieves: []int{1, 1}},
	}
	for i, p := range plans {
		if n := p.allTurns(t); n < 2 {
			t.Errorf("plan %d: only %d ways to take turns", i, n)
		}
	}
}

// P8.3, P8.4: the same with greater plans, in drawn turns: now and then one hand makes many steps in a row, so that others are far behind.
func TestDrawnTurns(t *testing.T) {
	d := draw(11)
	for round := range 6000 {
		p := plan{size: 1 + d.next(4), turned: d.next(5)}
		p.held = d.next(p.size + 1)
		for range d.next(12) {
			p.owner = append(p.owner, d.next(2))
		}
		for range d.next(5) {
			p.thieves = append(p.thieves, d.next(5))
		}
		playing := p.play(t)
		for ready := playing.ready(); len(ready) > 0; ready = playing.ready() {
			hand := ready[d.next(len(ready))]
			steps := 1
			if d.next(4) == 0 {
				steps = d.next(20)
			}
			for range steps {
				if slices.Contains(playing.ready(), hand) {
					playing.turn(t, hand)
				}
			}
		}
		playing.rest(t, round%2 == 0)
	}
}

// P8.3, P8.4: an owner and thieves reach for the last one, each stopped at some point, then on to their ends in some order: just one gets it.
func TestOneGetsTheLast(t *testing.T) {
	for _, size := range []int{1, 2, 5} {
		// A cut is how many steps each of the three makes first, in eights, and above them who begins and who ends.
		for cut := range 8 * 8 * 8 * 6 {
			c := gather(t, size, 1, cut%7)
			acts := []*doing{c.begin(popping), c.begin(stealing), c.begin(stealing)}
			for i, steps := 0, cut; i < 3; i, steps = i+1, steps/8 {
				c.some(t, acts[(i+cut/512)%3], steps%8)
			}
			for i := range acts {
				// Both ways round: from the first to the last, or back.
				if cut/512 > 2 {
					i = 2 - i
				}
				c.finish(t, acts[i])
			}
			n := 0
			for _, a := range acts {
				if a.got {
					n++
				}
			}
			if n != 1 {
				t.Fatalf("cut %d: %d of them got it", cut, n)
			}
			c.rest(t, cut%2 == 0)
		}
	}
}

// P8.3, P8.4: several thieves who reach for the same one: with as many values as thieves or more nobody's value is another one's, and the first one that claims gets the first.
func TestThievesForOne(t *testing.T) {
	for thieves := 2; thieves < 7; thieves++ {
		for held := 1; held < 9; held++ {
			c := gather(t, 8, held, thieves)
			var acts []*doing
			for range thieves {
				acts = append(acts, c.begin(stealing))
			}
			for range bound {
				for _, a := range acts {
					c.some(t, a, 1)
				}
			}
			n := 0
			for _, a := range acts {
				if a.got {
					n++
				}
			}
			if n < 1 || n > held {
				t.Fatalf("%d thieves got %d of %d", thieves, n, held)
			}
			c.rest(t, held%2 == 0)
		}
	}
}

// P8.1, P8.3, P8.4: a steal that was left in the middle, wherever: the others end and fill and empty the deque as often as they like; then it goes on, and takes nothing twice.
func TestStealThatWasLeft(t *testing.T) {
	for ahead := range 8 {
		for _, size := range []int{1, 2, 3} {
			for held := range size + 1 {
				for rounds := range 2*size + 3 {
					for _, way := range [][]int{{popping, pushing}, {stealing, pushing}, {pushing, popping}, {popping, popping, pushing}, {stealing, popping, pushing, pushing}} {
						c := gather(t, size, held, 1)
						left := c.begin(stealing)
						c.some(t, left, ahead)
						for range rounds {
							for _, kind := range way {
								c.finish(t, c.begin(kind))
							}
						}
						c.takers(t)
						c.finish(t, left)
						c.rest(t, rounds%2 == 0)
					}
				}
			}
		}
	}
}

// P8.1, P8.4: many steals that were left for good: what nobody took can still be taken, each value once.
func TestStealsLeftForGood(t *testing.T) {
	const size = 4
	for ahead := range 4 {
		c := gather(t, size, size, 3)
		for range 50 {
			c.some(t, c.begin(stealing), ahead)
		}
		got := 0
		for range size {
			if c.finish(t, c.begin(stealing)).got {
				got++
			}
			if c.finish(t, c.begin(popping)).got {
				got++
			}
		}
		c.takers(t)
		if got != size {
			t.Errorf("%d steps ahead: %d of %d are taken", ahead, got, size)
		}
		for range 3 * size {
			c.finish(t, c.begin(pushing))
			c.finish(t, c.begin(popping))
		}
		for _, a := range c.acts {
			c.finish(t, a)
		}
		c.rest(t, ahead%2 == 0)
	}
}

// P8.1: an act is done within its steps, whatever others do ahead of each of them.
func TestBoundWhateverOthersDo(t *testing.T) {
	for pattern := range 1 << 12 {
		for kind := pushing; kind <= stealing; kind++ {
			c := gather(t, 4, pattern%5, 0)
			a := c.begin(kind)
			for n := 0; a.ended == 0; n++ {
				// The owner does one act at a time: beside a Push or a Pop there are but steals.
				switch way := pattern >> (2 * (n % 6)) & 3; {
				case way == 1 || way == 2 && kind != stealing:
					c.finish(t, c.begin(stealing))
				case way == 2:
					c.finish(t, c.begin(pushing))
					c.finish(t, c.begin(stealing))
				case way == 3 && kind == stealing:
					c.finish(t, c.begin(pushing))
					c.finish(t, c.begin(popping))
					c.finish(t, c.begin(pushing))
				}
				c.step(t, a)
			}
			c.rest(t, pattern%2 == 0)
		}
	}
}

// P8.1: a thief who is always overtaken comes to an end too.
func TestThiefWhoIsAlwaysLate(t *testing.T) {
	c := gather(t, api.MaxDeque, api.MaxDeque, 0)
	late := c.begin(stealing)
	for late.ended == 0 {
		c.finish(t, c.begin(stealing))
		c.step(t, late)
	}
	c.rest(t, true)
}

// P8.3: a Push counts those that are being stolen, and no others: one stolen to the end ahead of it makes room.
func TestPushWhileStolen(t *testing.T) {
	for size := 1; size < 5; size++ {
		for ahead := range 6 {
			for between := range 6 {
				c := gather(t, size, size, 2)
				thief, owner := c.begin(stealing), c.begin(pushing)
				c.some(t, thief, ahead)
				gone := thief.ended > 0
				c.some(t, owner, between)
				c.finish(t, thief)
				c.finish(t, owner)
				if !thief.got || gone && !owner.got {
					t.Fatalf("size %d: thief %v, owner %v", size, thief.got, owner.got)
				}
				c.rest(t, between%2 == 0)
			}
		}
	}
}

// P8.3: a Pop beside a steal fails only if all was taken or being taken; with two values there both get one.
func TestPopWhileStolen(t *testing.T) {
	for ahead := range 6 {
		for between := range 8 {
			c := gather(t, 3, 2, 2)
			thief, owner := c.begin(stealing), c.begin(popping)
			c.some(t, thief, ahead)
			c.some(t, owner, between)
			c.finish(t, thief)
			c.finish(t, owner)
			if !owner.got {
				t.Fatalf("%d, %d: the Pop got nothing", ahead, between)
			}
			c.rest(t, ahead%2 == 0)
		}
	}
}

// P8.2: Len is promised when nothing is under way; at other times it is at least a number of values that a deque can hold.
func TestLenUnderWay(t *testing.T) {
	for kind := pushing; kind <= stealing; kind++ {
		for held := range 4 {
			for ahead := range 6 {
				c := gather(t, 3, held, 1)
				a := c.begin(kind)
				c.some(t, a, ahead)
				if n := c.d.Len(); n < 0 || n > 3 {
					t.Errorf("Len %d in the middle of an act of kind %d", n, kind)
				}
				c.finish(t, a)
				long(t, c.d, c.there())
			}
		}
	}
}

// P8.1: a deque touches its own cells alone; two deques beside one another know nothing of each other.
func TestBesideOtherCells(t *testing.T) {
	const size = 3
	n := deque.Cells(size)
	m := mem.New(2*n + 4)
	a, errA := deque.New(m, 2, size)
	b, errB := deque.New(m, 2+n, size)
	if errA != api.OK || errB != api.OK {
		t.Fatal(errA, errB)
	}
	beside := []int{0, 1, 2*n + 2, 2*n + 3}
	for _, i := range beside {
		m.Store(i, 1000+uint64(i))
	}
	own := func(of int) []uint64 { return cells(m)[2+of*n : 2+of*n+n] }
	work := func(d *deque.Deque) {
		for range 7 {
			fails(t, m, d.Pop())
			fails(t, m, d.Steal())
			push(t, m, d, 1, 2, math.MaxUint64)
			fails(t, m, d.Push(9))
			gets(t, m, d.Steal(), 1)
			gets(t, m, d.Pop(), math.MaxUint64)
			gets(t, m, d.Pop(), 2)
		}
		push(t, m, d, 5, 6)
	}
	was := own(1)
	work(a)
	if !slices.Equal(own(1), was) {
		t.Error("the first deque writes the second one's cells")
	}
	long(t, b, 0)
	was = own(0)
	work(b)
	if !slices.Equal(own(0), was) {
		t.Error("the second deque writes the first one's cells")
	}
	long(t, a, 2)
	gets(t, m, a.Steal(), 5)
	gets(t, m, b.Pop(), 6)
	for _, i := range beside {
		if m.Load(i) != 1000+uint64(i) {
			t.Errorf("cell %d beside the deques is %d", i, m.Load(i))
		}
	}
}

// P8.1: a deque in just the last cells there are reaches none beside them: what a cell that isn't there should hold would be lost.
func TestLastCells(t *testing.T) {
	for _, size := range []int{1, 2, 9, api.MaxDeque} {
		m := mem.New(deque.Cells(size) + 5)
		d, err := deque.New(m, 5, size)
		if err != api.OK {
			t.Fatal(err)
		}
		for lap := range uint64(3) {
			for n := range uint64(size) {
				push(t, m, d, lap<<32+n+1)
			}
			for n := range uint64(size) {
				gets(t, m, d.Steal(), lap<<32+n+1)
			}
		}
		for i := range 5 {
			if m.Load(i) != 0 {
				t.Errorf("size %d: cell %d is written", size, i)
			}
		}
	}
}

// P8.1, P8.2: what is held is in the cells: a second deque over the same ones is the same deque.
func TestSameCells(t *testing.T) {
	m := mem.New(deque.Cells(3))
	a, _ := deque.New(m, 0, 3)
	push(t, m, a, 1, 2)
	b, _ := deque.New(m, 0, 3)
	long(t, b, 2)
	gets(t, m, b.Steal(), 1)
	push(t, m, b, 3, 4)
	fails(t, m, a.Push(5))
	gets(t, m, a.Pop(), 4)
	gets(t, m, a.Steal(), 2)
	gets(t, m, b.Pop(), 3)
	long(t, a, 0)
}

// end steps a to its end; goroutines other than the test's own can't fail it on the spot.
func end(a *deque.Act) (uint64, bool) {
	for !a.Step() {
	}
	return a.Got()
}

// P8.3, P8.4: an owner and thieves in goroutines of their own: each value that was pushed is taken once, or is still there.
func TestGoroutines(t *testing.T) {
	const thieves, rounds = 6, 20000
	for _, size := range []int{1, 2, 8, api.MaxDeque} {
		m, d := laid(t, 0, size)
		var took [thieves + 1][]uint64
		pushed := 0
		var all sync.WaitGroup
		all.Go(func() {
			r := draw(size)
			for range rounds {
				if r.next(3) > 0 {
					if _, ok := end(d.Push(uint64(pushed))); ok {
						pushed++
					}
				} else if v, ok := end(d.Pop()); ok {
					took[thieves] = append(took[thieves], v)
				}
			}
		})
		for w := range thieves {
			all.Go(func() {
				for range rounds / 2 {
					if v, ok := end(d.Steal()); ok {
						took[w] = append(took[w], v)
					}
				}
			})
		}
		all.Wait()
		times := make([]int, pushed)
		for w, l := range took {
			// A thief's later steals are of values that were pushed later.
			if w < thieves && !slices.IsSorted(l) {
				t.Errorf("size %d: thief %d took out of order", size, w)
			}
			for _, v := range l {
				times[v]++
			}
		}
		long(t, d, pushed-len(slices.Concat(took[:]...)))
		last := -1
		for d.Len() > 0 {
			v, ok := run(t, m, d.Steal())
			if !ok || int(v) <= last {
				t.Fatalf("size %d: %d, %v behind %d", size, v, ok, last)
			}
			last = int(v)
			times[v]++
		}
		for v, n := range times {
			if n != 1 {
				t.Fatalf("size %d: %d is there %d times", size, v, n)
			}
		}
	}
}
