package cache_test

import (
	"math"
	"slices"
	"sync"
	"testing"

	"spinney/api"
	"spinney/bits"
	"spinney/cache"
	"spinney/mem"
)

// bound is the most steps that an act may take.
const bound = 16

// laid is a cache in the cells from base on, with some cells to spare behind it.
func laid(t *testing.T, base, lines int) (*mem.Mem, *cache.Cache) {
	t.Helper()
	m := mem.New(base + cache.Cells(lines) + 3)
	c, err := cache.New(m, base, lines)
	if err != api.OK || c == nil {
		t.Fatalf("New(%d, %d): %v", base, lines, err)
	}
	return m, c
}

// cells is what all cells hold.
func cells(m *mem.Mem) []uint64 {
	var l []uint64
	for i := range m.Len() {
		l = append(l, m.Load(i))
	}
	return l
}

// step makes one step of a; it fails on a second access, and on an answer that isn't Done's.
func step(t *testing.T, m *mem.Mem, a *cache.Act) bool {
	t.Helper()
	ops := m.Ops()
	done := a.Step()
	if n := m.Ops() - ops; n > 1 {
		t.Fatalf("%d accesses in one step", n)
	}
	if done != a.Done() {
		t.Fatalf("Step tells %v, Done %v", done, a.Done())
	}
	return done
}

// run steps a to its end; it fails past the bound, and if something is told ahead of the end.
func run(t *testing.T, m *mem.Mem, a *cache.Act) {
	t.Helper()
	for n := 0; !a.Done(); n++ {
		if n == bound {
			t.Fatalf("not done after %d steps", n)
		}
		told(t, a, 0, false)
		step(t, m, a)
	}
}

// told fails unless a tells just this.
func told(t *testing.T, a *cache.Act, val uint64, found bool) {
	t.Helper()
	if v, ok := a.Got(); v != val || ok != found {
		t.Fatalf("Got %#x %v, want %#x %v", v, ok, val, found)
	}
}

// put runs a Put to its end.
func put(t *testing.T, m *mem.Mem, c *cache.Cache, key, val uint64) {
	t.Helper()
	a := c.Put(key, val)
	run(t, m, a)
	told(t, a, 0, false)
}

// get runs a Get to its end, and tells what it got.
func get(t *testing.T, m *mem.Mem, c *cache.Cache, key uint64) (uint64, bool) {
	t.Helper()
	a := c.Get(key)
	run(t, m, a)
	return a.Got()
}

// finds fails unless a Get of the key tells the value.
func finds(t *testing.T, m *mem.Mem, c *cache.Cache, key, val uint64) {
	t.Helper()
	if v, ok := get(t, m, c, key); v != val || !ok {
		t.Fatalf("Get(%#x): %#x %v, want %#x", key, v, ok, val)
	}
}

// misses fails if a Get of the key tells something.
func misses(t *testing.T, m *mem.Mem, c *cache.Cache, key uint64) {
	t.Helper()
	if v, ok := get(t, m, c, key); v != 0 || ok {
		t.Fatalf("Get(%#x): %#x %v, want nothing", key, v, ok)
	}
}

// ends are words whose bits, halves or signs are at an end.
func ends() []uint64 {
	return []uint64{
		0, 1, 2, math.MaxUint64, math.MaxUint64 - 1, 1 << 63, math.MaxInt64,
		1 << 32, 1<<32 - 1, 1<<32 + 1, math.MaxUint32 << 32, 1 << 31, 1 << 33,
	}
}

// sharing is the first n keys from start on whose home is that of start.
func sharing(start uint64, lines, n int) []uint64 {
	var keys []uint64
	for k := start; len(keys) < n; k++ {
		if bits.Home(k, lines) == bits.Home(start, lines) {
			keys = append(keys, k)
		}
	}
	return keys
}

// P7.1: from 1 to 4 cells a line; 0 of less than one line; also where four a line are more than an int holds.
func TestCells(t *testing.T) {
	for _, lines := range []int{0, -1, -2, -7, math.MinInt / 4, math.MinInt/4 - 1, math.MinInt/2 + 1, math.MinInt + 1, math.MinInt} {
		if n := cache.Cells(lines); n != 0 {
			t.Errorf("Cells(%d): %d", lines, n)
		}
	}
	for _, lines := range []int{1, 2, 3, 5, api.MaxLines, api.MaxLines + 1, math.MaxInt / 8, math.MaxInt / 4, math.MaxInt/4 + 1, math.MaxInt / 2, math.MaxInt/2 + 1, math.MaxInt - 1, math.MaxInt} {
		n := cache.Cells(lines)
		if n < lines || (n-1)/4 >= lines {
			t.Errorf("Cells(%d): %d", lines, n)
		}
	}
}

// P7.1: ErrNone with lines below 1 or above MaxLines, and if one of the cells isn't there; the last cells that are there will do.
func TestNewWithinTheCells(t *testing.T) {
	one, five, most := cache.Cells(1), cache.Cells(5), cache.Cells(api.MaxLines)
	cases := []struct {
		cells, base, lines int
		want               api.Errno
	}{
		{one, 0, 1, api.OK}, {one + 7, 7, 1, api.OK}, {five, 0, 5, api.OK}, {five + 9, 9, 5, api.OK}, {five + 9, 4, 5, api.OK},
		{one - 1, 0, 1, api.ErrNone}, {one, 1, 1, api.ErrNone}, {five - 1, 0, 5, api.ErrNone}, {five + 8, 9, 5, api.ErrNone}, {five, five, 5, api.ErrNone}, {five, five + 1, 1, api.ErrNone},
		{five, 0, 0, api.ErrNone}, {five, five, 0, api.ErrNone}, {five, 0, -1, api.ErrNone}, {five, 0, -5, api.ErrNone}, {five, 0, math.MinInt, api.ErrNone},
		{five, -1, 1, api.ErrNone}, {five, -1, 5, api.ErrNone}, {five, -one, 1, api.ErrNone}, {five, math.MinInt, 1, api.ErrNone}, {five, math.MinInt + 3, 5, api.ErrNone},
		{0, 0, 1, api.ErrNone}, {0, 0, 0, api.ErrNone}, {-3, -3, 1, api.ErrNone},
		{five, math.MaxInt, 1, api.ErrNone}, {five, math.MaxInt - one, 1, api.ErrNone}, {five, 0, math.MaxInt, api.ErrNone}, {five, math.MaxInt, math.MaxInt, api.ErrNone},
		{five, 0, 1 << 62, api.ErrNone}, {five, 0, math.MaxInt/4 + 1, api.ErrNone}, {five, math.MinInt, math.MinInt, api.ErrNone}, {five, math.MinInt, math.MaxInt, api.ErrNone},
		{most, 0, api.MaxLines, api.OK}, {most - 1, 0, api.MaxLines, api.ErrNone}, {most, 0, api.MaxLines - 1, api.OK},
		{api.MaxCells, 0, api.MaxLines, api.OK}, {api.MaxCells, api.MaxCells - most, api.MaxLines, api.OK}, {api.MaxCells, api.MaxCells - most + 1, api.MaxLines, api.ErrNone},
		{api.MaxCells, 0, api.MaxLines + 1, api.ErrNone}, {api.MaxCells, 0, 2 * api.MaxLines, api.ErrNone},
	}
	for _, k := range cases {
		m := mem.New(k.cells)
		c, err := cache.New(m, k.base, k.lines)
		if err != k.want || (c == nil) != (k.want != api.OK) {
			t.Errorf("New(%d cells, %d, %d): %v, %v, want %v", k.cells, k.base, k.lines, c != nil, err, k.want)
		}
	}
}

// P7.1: cells that are all 0 are an empty cache, for each key: 0 too.
func TestEmpty(t *testing.T) {
	for _, lines := range []int{1, 2, 7, api.MaxLines} {
		m, c := laid(t, 3, lines)
		for _, k := range ends() {
			misses(t, m, c, k)
		}
		for k := range uint64(200) {
			misses(t, m, c, k)
		}
		for i, v := range cells(m) {
			if v != 0 {
				t.Fatalf("%d lines: a Get has written cell %d", lines, i)
			}
		}
	}
}

// P7.1: an act that was made has done nothing yet.
func TestActsDoNothing(t *testing.T) {
	m, c := laid(t, 2, 3)
	for _, k := range ends() {
		for _, a := range []*cache.Act{c.Put(k, 5), c.Get(k)} {
			if a.Done() {
				t.Errorf("key %#x: it is done", k)
			}
			told(t, a, 0, false)
		}
	}
	if m.Ops() != 0 {
		t.Errorf("Ops %d", m.Ops())
	}
	put(t, m, c, 5, 6)
	c.Put(5, 7)
	finds(t, m, c, 5, 6)
}

// P7.1: done, an act tells true at each step, makes no access, and tells what it told.
func TestStepsBehindTheEnd(t *testing.T) {
	m, c := laid(t, 1, 2)
	k := sharing(1<<40, 2, 2)
	acts := []*cache.Act{c.Get(k[0]), c.Put(k[0], 8), c.Get(k[0]), c.Get(k[1]), c.Put(k[1], 9), c.Get(k[0]), c.Get(k[1])}
	for i, a := range acts {
		run(t, m, a)
		val, found := a.Got()
		was := cells(m)
		ops := m.Ops()
		for range 20 {
			if !a.Step() || !a.Done() {
				t.Fatalf("act %d isn't done any more", i)
			}
			told(t, a, val, found)
		}
		if m.Ops() != ops || !slices.Equal(cells(m), was) {
			t.Errorf("act %d: steps behind the end do something", i)
		}
	}
	told(t, acts[2], 8, true)
	told(t, acts[6], 9, true)
}

// P7.1, P7.2: one behind the other: a Get behind the Put of its key tells its value, whatever key and value are; it tells it again, and the same as a value put anew.
func TestPutAndGet(t *testing.T) {
	for _, lines := range []int{1, 2, 3, 64, api.MaxLines} {
		m, c := laid(t, 5, lines)
		for _, k := range ends() {
			for _, v := range ends() {
				put(t, m, c, k, v)
				finds(t, m, c, k, v)
				finds(t, m, c, k, v)
				put(t, m, c, k, v)
				finds(t, m, c, k, v)
			}
		}
	}
	m, c := laid(t, 0, 8)
	put(t, m, c, 3, 9)
	finds(t, m, c, 3, 9)
}

// P7.2, P7.3: keys that were never put are never found, however near to one that was.
func TestNearKeys(t *testing.T) {
	for _, k := range ends() {
		m, c := laid(t, 0, 1)
		put(t, m, c, k, 77)
		for bit := range 64 {
			misses(t, m, c, k^1<<bit)
			misses(t, m, c, k^1<<bit^1<<((bit+32)%64))
		}
		misses(t, m, c, ^k)
		misses(t, m, c, 77)
		finds(t, m, c, k, 77)
	}
}

// P7.2: keys that meet in one line: the last one put is told, of the others their last value or nothing.
func TestKeysThatMeet(t *testing.T) {
	for _, lines := range []int{1, 2, 5} {
		m, c := laid(t, 1, lines)
		keys := append(sharing(1<<32+1, lines, 3), sharing(7, lines, 3)...)
		last := map[uint64]uint64{}
		for n := range 60 {
			k := keys[n*n%len(keys)]
			val := uint64(n)<<32 | uint64(60-n)
			put(t, m, c, k, val)
			last[k] = val
			finds(t, m, c, k, val)
			for _, other := range keys {
				if v, ok := get(t, m, c, other); ok && (last[other] == 0 || v != last[other]) {
					t.Fatalf("Get(%#x): %#x, the last one is %#x", other, v, last[other])
				}
			}
			finds(t, m, c, k, val)
		}
	}
}

// draw is a row of numbers that look drawn.
type draw uint64

func (d *draw) next(below int) int {
	*d = *d*6364136223846793005 + 1442695040888963407
	return int(uint64(*d)>>33) % below
}

// word is one of few words, whose halves meet often.
func (d *draw) word() uint64 {
	return uint64(d.next(3))<<32 | uint64(d.next(3))
}

// P7.2: long rows of puts, gets and clears, one behind the other, against the last Put of each key.
func TestLongRows(t *testing.T) {
	d := draw(7)
	for round := range 60 {
		lines := 1 + d.next(6)
		m, c := laid(t, d.next(5), lines)
		last := map[uint64]uint64{}
		lastKey, putLast := uint64(0), false
		found := 0
		for range 400 {
			switch key := d.word(); d.next(20) {
			case 0:
				c.Clear()
				clear(last)
				putLast = false
			case 1, 2, 3, 4, 5, 6, 7:
				val := d.word()
				put(t, m, c, key, val)
				last[key] = val
				lastKey, putLast = key, true
			default:
				if d.next(3) == 0 {
					key = lastKey
				}
				v, ok := get(t, m, c, key)
				if want, was := last[key]; ok && (!was || v != want) {
					t.Fatalf("round %d: Get(%#x): %#x, the last one is %#x %v", round, key, v, want, was)
				}
				if !ok && putLast && key == lastKey {
					t.Fatalf("round %d: Get(%#x) tells nothing behind its Put", round, key)
				}
				if ok {
					found++
				}
				// Only a Get straight behind its Put must tell something.
				putLast = false
			}
		}
		if found == 0 {
			t.Fatalf("round %d: nothing was ever found", round)
		}
	}
}

// doing is an act of a crowd, and how far it has come.
type doing struct {
	put      bool
	key, val uint64
	act      *cache.Act
	steps    int
}

// crowd is acts that share a cache.
type crowd struct {
	m    *mem.Mem
	c    *cache.Cache
	acts []*doing
}

func gather(t *testing.T, lines int, acts []doing) *crowd {
	m, c := laid(t, 2, lines)
	all := &crowd{m: m, c: c}
	for _, d := range acts {
		all.add(d)
	}
	return all
}

// add makes an act that has done nothing yet.
func (all *crowd) add(d doing) *doing {
	d.act, d.steps = all.c.Get(d.key), 0
	if d.put {
		d.act = all.c.Put(d.key, d.val)
	}
	all.acts = append(all.acts, &d)
	return &d
}

// step makes a step of the act; it must end in time, and what it tells was put with its key by a Put that has begun.
func (all *crowd) step(t *testing.T, d *doing) {
	t.Helper()
	step(t, all.m, d.act)
	if d.steps++; d.steps > bound || d.steps == bound && !d.act.Done() {
		t.Fatalf("%d steps", d.steps)
	}
	v, ok := d.act.Got()
	if !ok {
		told(t, d.act, 0, false)
		return
	}
	if d.put || !d.act.Done() {
		t.Fatalf("put %v, done %v: it tells %#x", d.put, d.act.Done(), v)
	}
	if !all.begun(d.key, v) {
		t.Fatalf("Get(%#x): %#x, which wasn't put", d.key, v)
	}
}

// begun tells whether a Put of this key and value has done its first step.
func (all *crowd) begun(key, val uint64) bool {
	for _, p := range all.acts {
		if p.put && p.steps > 0 && p.key == key && p.val == val {
			return true
		}
	}
	return false
}

// finish steps the act to its end.
func (all *crowd) finish(t *testing.T, d *doing) *doing {
	t.Helper()
	for !d.act.Done() {
		all.step(t, d)
	}
	return d
}

// waiting is the acts that aren't done.
func (all *crowd) waiting() []*doing {
	var l []*doing
	for _, d := range all.acts {
		if !d.act.Done() {
			l = append(l, d)
		}
	}
	return l
}

// ask gets all keys whose halves are halves of the keys that were put, each by a Get of its own.
func (all *crowd) ask(t *testing.T) {
	t.Helper()
	for _, p := range all.acts[:len(all.acts):len(all.acts)] {
		for _, q := range all.acts[:len(all.acts):len(all.acts)] {
			if p.put && q.put {
				all.finish(t, all.add(doing{key: p.key>>32<<32 | q.key&math.MaxUint32}))
			}
		}
	}
}

// rest is what holds when no act is under way any more: a Put is told by the Get behind it.
func (all *crowd) rest(t *testing.T) {
	t.Helper()
	for i, p := range all.acts[:len(all.acts):len(all.acts)] {
		val := uint64(i+90)<<32 | uint64(i+80)
		all.finish(t, all.add(doing{put: true, key: p.key, val: val}))
		told(t, all.finish(t, all.add(doing{key: p.key})).act, val, true)
	}
}

// allTurns goes through all turns in which the acts can be stepped to their ends, and asks at each point at which they might be left; it tells how many turns there are.
func allTurns(t *testing.T, lines int, acts []doing) int {
	t.Helper()
	n := 0
	var from func(turns []int)
	from = func(turns []int) {
		all := gather(t, lines, acts)
		for _, i := range turns {
			all.step(t, all.acts[i])
		}
		var left []int
		for i, d := range all.acts {
			if !d.act.Done() {
				left = append(left, i)
			}
		}
		all.ask(t)
		if len(left) == 0 {
			all.rest(t)
			n++
		}
		for _, i := range left {
			from(append(turns[:len(turns):len(turns)], i))
		}
	}
	from(nil)
	return n
}

// P7.2, P7.3: puts and gets of one line in all turns that there are, and left at all points: nothing is told that wasn't put, neither a value of another key nor halves of two.
func TestAllTurns(t *testing.T) {
	const a, b = 1<<32 | 1, 2<<32 | 2
	crowds := [][]doing{
		{{put: true, key: a, val: 5<<32 | 6}, {key: a}},
		{{put: true, key: a, val: 5<<32 | 6}, {put: true, key: a, val: 7<<32 | 8}},
		{{put: true, key: a, val: 5<<32 | 6}, {put: true, key: b, val: 7<<32 | 8}},
		{{put: true, key: 0, val: 5}, {put: true, key: 1, val: 0}},
		{{put: true, key: a, val: 5<<32 | 6}, {put: true, key: 1<<32 | 2, val: 5<<32 | 8}},
		{{put: true, key: a, val: 5<<32 | 6}, {key: a}, {key: b}},
		{{put: true, key: 0, val: 0}, {key: 0}, {key: 0}},
	}
	for i, acts := range crowds {
		if n := allTurns(t, 1, acts); n < 2 {
			t.Errorf("crowd %d: only %d ways to take turns", i, n)
		}
	}
}

// overtaken steps the acts in turns of so many steps; then they are left there, and asked about; then they go on to their ends.
func overtaken(t *testing.T, acts []doing, cuts [6]int) {
	t.Helper()
	all := gather(t, 1, acts)
	for i, steps := range cuts {
		d := all.acts[i%len(acts)]
		for range steps {
			all.step(t, d)
			if d.act.Done() {
				break
			}
		}
	}
	all.ask(t)
	for _, d := range all.waiting() {
		all.finish(t, d)
	}
	all.ask(t)
	all.rest(t)
}

// P7.2, P7.3: three acts in pieces: the first one is overtaken by the others, wherever they are, and goes on behind them.
func TestPieces(t *testing.T) {
	const a, b = 1<<32 | 1, 2<<32 | 2
	crowds := [][]doing{
		{{put: true, key: a, val: 5<<32 | 6}, {put: true, key: b, val: 7<<32 | 8}, {key: a}},
		{{put: true, key: a, val: 5<<32 | 6}, {put: true, key: b, val: 7<<32 | 8}, {key: b}},
		{{put: true, key: a, val: 5<<32 | 6}, {put: true, key: a, val: 7<<32 | 8}, {key: a}},
		{{put: true, key: a, val: 5<<32 | 6}, {put: true, key: b, val: 7<<32 | 8}, {put: true, key: a, val: 3<<32 | 4}},
	}
	const most = 7
	for _, acts := range crowds {
		for n := range most * most * most * most {
			overtaken(t, acts, [6]int{n % most, n / most % most, n / most / most % most, n / most / most / most, bound, bound})
		}
	}
}

// P7.1, P7.2, P7.3: many acts in drawn turns, some left in the middle for good, with clears when none is under way.
func TestDrawnTurns(t *testing.T) {
	d := draw(11)
	for range 1500 {
		var acts []doing
		for i := range 2 + d.next(9) {
			acts = append(acts, doing{put: d.next(2) == 0, key: d.word(), val: uint64(i+1)<<32 | uint64(i+50)})
		}
		all := gather(t, 1+d.next(3), acts)
		for left := all.waiting(); len(left) > d.next(4); left = all.waiting() {
			who := left[d.next(len(left))]
			for range 1 + d.next(4) {
				if !who.act.Done() {
					all.step(t, who)
				}
			}
		}
		all.ask(t)
		for _, who := range all.waiting() {
			all.finish(t, who)
		}
		all.rest(t)
		all.c.Clear()
		for _, p := range acts {
			misses(t, all.m, all.c, p.key)
		}
	}
}

// P7.1, P7.2: a Put left in the middle, wherever that is: gets and puts of others end, and tell nothing that wasn't put; when it goes on, it ends too.
func TestLeftInTheMiddle(t *testing.T) {
	const key, other = 1<<32 | 1, 2<<32 | 2
	for ahead := 0; ; ahead++ {
		all := gather(t, 1, []doing{{put: true, key: other, val: 3}, {put: true, key: key, val: 5<<32 | 6}})
		all.finish(t, all.acts[0])
		left := all.acts[1]
		for range ahead {
			all.step(t, left)
		}
		if left.act.Done() {
			break
		}
		all.ask(t)
		for n := range uint64(4) {
			all.finish(t, all.add(doing{put: true, key: other, val: n<<32 | 10}))
			all.ask(t)
			all.finish(t, all.add(doing{put: true, key: key, val: n<<32 | 20}))
			all.ask(t)
		}
		all.finish(t, left)
		all.ask(t)
		all.rest(t)
	}
}

// P7.2: a Put that comes behind one that was left in the middle counts: what was left there takes no line away.
func TestLeftForGood(t *testing.T) {
	for ahead := 0; ; ahead++ {
		m, c := laid(t, 0, 1)
		left := c.Put(4, 5)
		for range ahead {
			step(t, m, left)
		}
		if left.Done() {
			break
		}
		put(t, m, c, 4, 6)
		finds(t, m, c, 4, 6)
		put(t, m, c, 7, 8)
		finds(t, m, c, 7, 8)
	}
}

// P7.1: an act is done within its steps, whatever others do: also if somebody writes the line ahead of each of its steps.
func TestBoundWhateverOthersDo(t *testing.T) {
	for pattern := range 1 << 10 {
		for _, isPut := range []bool{true, false} {
			m, c := laid(t, 0, 1)
			put(t, m, c, 1, 2)
			a := c.Get(1)
			if isPut {
				a = c.Put(1, 3)
			}
			for n := 0; !a.Done(); n++ {
				if n == bound {
					t.Fatalf("pattern %b: not done after %d steps", pattern, n)
				}
				switch pattern >> (2 * (n % 5)) & 3 {
				case 1:
					put(t, m, c, 1, uint64(n+10))
				case 2:
					put(t, m, c, 5, uint64(n+20))
				case 3:
					c.Clear()
				}
				step(t, m, a)
			}
		}
	}
}

// P7.2: Clear forgets all that was put, how often it ever comes, and what is put behind it counts; gets that are done tell what they told.
func TestClear(t *testing.T) {
	for _, lines := range []int{1, 3, 16} {
		m, c := laid(t, 2, lines)
		c.Clear()
		for _, k := range ends() {
			misses(t, m, c, k)
		}
		for round := range uint64(5) {
			put(t, m, c, 1, round)
			g := c.Get(1)
			run(t, m, g)
			told(t, g, round, true)
			for _, k := range ends() {
				put(t, m, c, k, k^round)
				finds(t, m, c, k, k^round)
			}
			c.Clear()
			told(t, g, round, true)
			for _, k := range ends() {
				misses(t, m, c, k)
			}
			c.Clear()
			for _, k := range ends() {
				misses(t, m, c, k)
			}
		}
	}
}

// P7.2: behind a Clear a cache is empty whatever its cells held, and it is a cache like others.
func TestClearOfOtherCells(t *testing.T) {
	for _, v := range []uint64{1, 1 << 32, 5<<32 | 5, math.MaxUint64, math.MaxUint64 - 1<<32, math.MaxUint64 - 3<<32, 1 << 63, math.MaxInt64} {
		m, c := laid(t, 1, 2)
		for i := range m.Len() {
			m.Store(i, v)
		}
		c.Clear()
		for _, k := range append(ends(), v&math.MaxUint32<<32|v&math.MaxUint32, v&math.MaxUint32<<32) {
			misses(t, m, c, k)
		}
		for n := range uint64(6) {
			for _, k := range ends() {
				put(t, m, c, k, n)
				finds(t, m, c, k, n)
			}
		}
		c.Clear()
		for _, k := range ends() {
			misses(t, m, c, k)
		}
	}
}

// P7.2: so it is where the cells held what looks like lines.
func TestClearOfLikelyCells(t *testing.T) {
	d := draw(3)
	for range 300 {
		m, c := laid(t, 0, 1+d.next(2))
		for i := range m.Len() {
			m.Store(i, d.word())
		}
		c.Clear()
		for n := range uint64(9) {
			misses(t, m, c, n/3<<32|n%3)
		}
		key, val := d.word(), d.word()
		put(t, m, c, key, val)
		finds(t, m, c, key, val)
	}
}

// P7.2: a Put that had begun ahead of a Clear is forgotten with the others, wherever it was.
func TestClearForgetsWhatIsUnderWay(t *testing.T) {
	for ahead := 1; ; ahead++ {
		m, c := laid(t, 0, 1)
		a := c.Put(4, 5)
		for range ahead {
			step(t, m, a)
		}
		if a.Done() {
			break
		}
		c.Clear()
		misses(t, m, c, 4)
		run(t, m, a)
		misses(t, m, c, 4)
		put(t, m, c, 4, 6)
		finds(t, m, c, 4, 6)
	}
}

// P7.2, P7.3: acts that were under way during a Clear tell nothing that wasn't put, and let nothing be told that wasn't.
func TestClearUnderWay(t *testing.T) {
	const a, b = 1<<32 | 1, 2<<32 | 2
	for first := range 6 {
		for second := range 6 {
			for third := range 6 {
				all := gather(t, 1, []doing{
					{put: true, key: a, val: 5<<32 | 6}, {put: true, key: b, val: 7<<32 | 8}, {key: a}, {put: true, key: a, val: 3<<32 | 4},
				})
				some := func(d *doing, steps int) {
					for range steps {
						if !d.act.Done() {
							all.step(t, d)
						}
					}
				}
				some(all.acts[3], third)
				some(all.acts[0], first)
				some(all.acts[2], third)
				all.c.Clear()
				some(all.acts[1], second)
				all.ask(t)
				some(all.acts[0], 2)
				all.ask(t)
				for _, d := range all.waiting() {
					all.finish(t, d)
					all.ask(t)
				}
				all.rest(t)
			}
		}
	}
}

// P7.1, P7.2: a cache touches its own cells alone, by its acts and by Clear; two caches beside one another know nothing of each other.
func TestBesideOtherCells(t *testing.T) {
	const lines = 3
	n := cache.Cells(lines)
	m := mem.New(2*n + 4)
	a, errA := cache.New(m, 2, lines)
	b, errB := cache.New(m, 2+n, lines)
	if errA != api.OK || errB != api.OK {
		t.Fatal(errA, errB)
	}
	beside := []int{0, 1, 2*n + 2, 2*n + 3}
	for _, i := range beside {
		m.Store(i, 1000+uint64(i))
	}
	own := func(of int) []uint64 { return cells(m)[2+of*n : 2+of*n+n] }
	was := own(1)
	for k := range uint64(30) {
		put(t, m, a, k, k+5)
		finds(t, m, a, k, k+5)
		misses(t, m, b, k)
	}
	if !slices.Equal(own(1), was) {
		t.Error("the first cache writes the second one's cells")
	}
	was = own(0)
	for k := range uint64(30) {
		put(t, m, b, k, k+9)
		finds(t, m, b, k, k+9)
	}
	if !slices.Equal(own(0), was) {
		t.Error("the second cache writes the first one's cells")
	}
	was = own(1)
	a.Clear()
	finds(t, m, b, 29, 38)
	misses(t, m, a, 29)
	if !slices.Equal(own(1), was) {
		t.Error("the first one's Clear writes the second one's cells")
	}
	was = own(0)
	b.Clear()
	misses(t, m, b, 29)
	if !slices.Equal(own(0), was) {
		t.Error("the second one's Clear writes the first one's cells")
	}
	for _, i := range beside {
		if m.Load(i) != 1000+uint64(i) {
			t.Errorf("cell %d beside the caches is %d", i, m.Load(i))
		}
	}
}

// P7.1: a cache in just the last cells there are reaches none beside them: what a cell that isn't there should hold would be lost.
func TestLastCells(t *testing.T) {
	for _, lines := range []int{1, 2, 9, api.MaxLines} {
		n := cache.Cells(lines)
		m := mem.New(n + 5)
		c, err := cache.New(m, 5, lines)
		if err != api.OK {
			t.Fatal(err)
		}
		for k := range uint64(2 * lines) {
			put(t, m, c, k, k+1)
			finds(t, m, c, k, k+1)
		}
		for i := range 5 {
			if m.Load(i) != 0 {
				t.Errorf("%d lines: cell %d is written", lines, i)
			}
		}
	}
}

// P7.2: what is held is in the cells: a second cache over the same ones is the same cache.
func TestSameCells(t *testing.T) {
	m := mem.New(cache.Cells(2))
	a, _ := cache.New(m, 0, 2)
	put(t, m, a, 8, 9)
	b, _ := cache.New(m, 0, 2)
	finds(t, m, b, 8, 9)
	b.Clear()
	misses(t, m, a, 8)
}

// P7.2: many lines hold many keys: most of few keys are still there.
func TestLinesAreUsed(t *testing.T) {
	m, c := laid(t, 0, api.MaxLines)
	const keys = 100
	for k := range uint64(keys) {
		put(t, m, c, k<<20, k)
	}
	found := 0
	for k := range uint64(keys) {
		if v, ok := get(t, m, c, k<<20); ok {
			found++
			if v != k {
				t.Fatalf("Get(%#x): %d", k<<20, v)
			}
		}
	}
	if found < keys/2 {
		t.Errorf("%d of %d keys are found", found, keys)
	}
}

// P7.2, P7.3: acts of several goroutines: what is told was put with its key.
func TestGoroutines(t *testing.T) {
	const workers, rounds = 8, 3000
	m, c := laid(t, 0, 2)
	var lies [workers]int
	var all sync.WaitGroup
	for w := range workers {
		all.Go(func() {
			d := draw(w)
			for n := range rounds {
				// Both halves of a value tell its key, and which Put it was.
				key := d.word()
				id := uint64(w*rounds+n)<<6 | key>>32<<3 | key&7
				p := c.Put(key, id<<32|id)
				for !p.Step() {
				}
				key = d.word()
				g := c.Get(key)
				for !g.Step() {
				}
				v, ok := g.Got()
				if ok && (v>>32 != v&math.MaxUint32 || v&63 != key>>32<<3|key&7) {
					lies[w]++
				}
			}
		})
	}
	all.Wait()
	for w, n := range lies {
		if n > 0 {
			t.Errorf("worker %d was told %d lies", w, n)
		}
	}
	put(t, m, c, 1, 2)
	finds(t, m, c, 1, 2)
}
