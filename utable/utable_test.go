package utable_test

import (
	"math"
	"sync"
	"testing"

	"spinney/api"
	"spinney/bits"
	"spinney/mem"
	"spinney/utable"
)

// laid is a table in the cells from base on, with some cells to spare behind it.
func laid(t *testing.T, base, slots int) (*mem.Mem, *utable.Table) {
	t.Helper()
	m := mem.New(base + slots + 3)
	x, err := utable.New(m, base, slots)
	if err != api.OK || x == nil {
		t.Fatalf("New(%d, %d): %v", base, slots, err)
	}
	return m, x
}

// atHome is the first n keys whose home is the slot.
func atHome(home, slots, n int) []uint64 {
	var keys []uint64
	for k := uint64(1); len(keys) < n; k++ {
		if bits.Home(k, slots) == home {
			keys = append(keys, k)
		}
	}
	return keys
}

// step makes one step of f; it fails on a second access, and on an answer that isn't Done's.
func step(t *testing.T, m *mem.Mem, f *utable.Finder) bool {
	t.Helper()
	ops := m.Ops()
	done := f.Step()
	if n := m.Ops() - ops; n > 1 {
		t.Fatalf("%d accesses in one step", n)
	}
	if done != f.Done() {
		t.Fatalf("Step tells %v, Done %v", done, f.Done())
	}
	return done
}

// run steps f to its end, and tells how many steps it took; it fails past the bound.
func run(t *testing.T, m *mem.Mem, x *utable.Table, f *utable.Finder) int {
	t.Helper()
	for n := 0; ; n++ {
		if f.Done() {
			return n
		}
		if n == bound(x) {
			t.Fatalf("not done after %d steps, of %d slots", n, x.Slots())
		}
		step(t, m, f)
	}
}

// bound is the most steps that a finder may take.
func bound(x *utable.Table) int { return 3*x.Slots() + 3 }

// told fails unless f tells just this.
func told(t *testing.T, f *utable.Finder, done bool, slot int, err api.Errno, made bool) {
	t.Helper()
	s, e := f.Slot()
	if f.Done() != done || s != slot || e != err || f.Made() != made {
		t.Fatalf("Done %v, Slot %d %v, Made %v, want %v, %d %v, %v", f.Done(), s, e, f.Made(), done, slot, err, made)
	}
}

// at fails unless key stands in the slot, and there alone.
func at(t *testing.T, x *utable.Table, key uint64, slot int) {
	t.Helper()
	for s := range x.Slots() {
		if (x.At(s) == key) != (s == slot) {
			t.Fatalf("key %d: slot %d holds %d, its slot is %d", key, s, x.At(s), slot)
		}
	}
	if s, ok := x.Has(key); s != slot || !ok {
		t.Fatalf("Has(%d): %d %v, want %d", key, s, ok, slot)
	}
}

// missing fails if key stands anywhere.
func missing(t *testing.T, x *utable.Table, key uint64) {
	t.Helper()
	for s := range x.Slots() {
		if key != 0 && x.At(s) == key {
			t.Fatalf("key %d stands in slot %d", key, s)
		}
	}
	if s, ok := x.Has(key); s != -1 || ok {
		t.Fatalf("Has(%d): %d %v, want -1", key, s, ok)
	}
}

// put runs a finder of a key that isn't there and finds room, and tells its slot.
func put(t *testing.T, m *mem.Mem, x *utable.Table, key uint64) int {
	t.Helper()
	missing(t, x, key)
	f := x.Find(key)
	run(t, m, x, f)
	slot, _ := f.Slot()
	told(t, f, true, slot, api.OK, true)
	at(t, x, key, slot)
	return slot
}

// P6.1: ErrNone without a slot, and if one of the cells isn't there; the last cells that are there will do.
func TestNewWithinTheCells(t *testing.T) {
	cases := []struct {
		cells, base, slots int
		want               api.Errno
	}{
		{10, 0, 10, api.OK}, {10, 0, 1, api.OK}, {10, 9, 1, api.OK}, {10, 3, 7, api.OK}, {1, 0, 1, api.OK},
		{10, 0, 11, api.ErrNone}, {10, 3, 8, api.ErrNone}, {10, 9, 2, api.ErrNone}, {10, 10, 1, api.ErrNone}, {10, 11, 1, api.ErrNone},
		{10, 0, 0, api.ErrNone}, {10, 10, 0, api.ErrNone}, {10, 5, -1, api.ErrNone}, {10, 0, math.MinInt, api.ErrNone},
		{10, -1, 1, api.ErrNone}, {10, -1, 5, api.ErrNone}, {10, -5, 15, api.ErrNone}, {10, math.MinInt, 1, api.ErrNone},
		{0, 0, 1, api.ErrNone}, {0, 0, 0, api.ErrNone}, {-3, -3, 1, api.ErrNone},
		{10, math.MaxInt, 1, api.ErrNone}, {10, 1, math.MaxInt, api.ErrNone}, {10, math.MaxInt, math.MaxInt, api.ErrNone},
		{10, math.MinInt, math.MaxInt, api.ErrNone}, {10, math.MinInt, math.MinInt, api.ErrNone}, {10, 1 << 62, 1 << 62, api.ErrNone},
		{api.MaxCells, 0, api.MaxCells, api.OK}, {api.MaxCells, api.MaxCells - 1, 1, api.OK}, {api.MaxCells, 1, api.MaxCells, api.ErrNone},
	}
	for _, c := range cases {
		x, err := utable.New(mem.New(c.cells), c.base, c.slots)
		if err != c.want || (x == nil) != (c.want != api.OK) {
			t.Errorf("New(%d cells, %d, %d): %v, %v, want %v", c.cells, c.base, c.slots, x != nil, err, c.want)
		}
		if x != nil && x.Slots() != c.slots {
			t.Errorf("New(%d cells, %d, %d): Slots %d", c.cells, c.base, c.slots, x.Slots())
		}
	}
}

// P6.1: a table in the last cells uses each of them, and none beside them.
func TestLastCells(t *testing.T) {
	m := mem.New(10)
	x, err := utable.New(m, 6, 4)
	if err != api.OK {
		t.Fatal(err)
	}
	for i := range 6 {
		m.Store(i, 1000)
	}
	for k := range uint64(4) {
		slot := put(t, m, x, k+1)
		if m.Load(6+slot) != k+1 {
			t.Errorf("key %d isn't in the cell of its slot %d", k+1, slot)
		}
	}
	if x.Len() != 4 {
		t.Errorf("Len %d", x.Len())
	}
	for i := range 6 {
		if m.Load(i) != 1000 {
			t.Errorf("cell %d is written", i)
		}
	}
}

// P6.1, P6.2: a finder that was made has done nothing yet.
func TestFindDoesNothing(t *testing.T) {
	m, x := laid(t, 2, 5)
	for _, k := range []uint64{1, 2, 1 << 40, math.MaxUint64} {
		told(t, x.Find(k), false, -1, api.ErrNone, false)
	}
	if m.Ops() != 0 || x.Len() != 0 {
		t.Errorf("Ops %d, Len %d", m.Ops(), x.Len())
	}
}

// P6.1: a finder of key 0 is done, with ErrNone, in an empty table and in a full one; it puts nothing.
func TestKeyZero(t *testing.T) {
	m, x := laid(t, 0, 2)
	for range 3 {
		ops := m.Ops()
		f := x.Find(0)
		told(t, f, true, -1, api.ErrNone, false)
		if !f.Step() || !f.Step() || m.Ops() != ops {
			t.Error("a step of key 0")
		}
		told(t, f, true, -1, api.ErrNone, false)
		missing(t, x, 0)
		if x.Len() < 2 {
			put(t, m, x, uint64(x.Len()+1))
		}
	}
}

// P6.1, P6.2: while it isn't done a finder tells -1, ErrNone and that it made nothing; done it tells true at each step, and does nothing any more.
func TestStepsBehindTheEnd(t *testing.T) {
	m, x := laid(t, 1, 3)
	keys := atHome(2, 3, 4)
	row := []uint64{keys[0], keys[0], keys[1], keys[2], keys[1], keys[3], keys[2], keys[3]}
	for i, k := range row {
		f := x.Find(k)
		for !f.Done() {
			told(t, f, false, -1, api.ErrNone, false)
			step(t, m, f)
		}
		slot, err := f.Slot()
		made := f.Made()
		cells := [3]uint64{x.At(0), x.At(1), x.At(2)}
		ops := m.Ops()
		for range 20 {
			if !f.Step() {
				t.Fatalf("place %d: it isn't done any more", i)
			}
			told(t, f, true, slot, err, made)
		}
		if m.Ops() != ops || cells != [3]uint64{x.At(0), x.At(1), x.At(2)} {
			t.Errorf("place %d: steps behind the end do something", i)
		}
	}
}

// P6.1, P6.2: one behind the other: each key is put once and found where it was put, until the table is full; then the keys that are there are found still, and another one is ErrFull.
func TestOneBehindTheOther(t *testing.T) {
	for slots := 1; slots <= 40; slots++ {
		m, x := laid(t, 3, slots)
		where := map[uint64]int{}
		for n := range slots {
			key := uint64(n+1) * 0x9e3779b97f4a7c15
			where[key] = put(t, m, x, key)
			if x.Len() != n+1 {
				t.Fatalf("%d slots: Len %d behind %d keys", slots, x.Len(), n+1)
			}
			for k, slot := range where {
				f := x.Find(k)
				run(t, m, x, f)
				told(t, f, true, slot, api.OK, false)
				at(t, x, k, slot)
			}
		}
		for k := range uint64(5) {
			f := x.Find(k + 1)
			run(t, m, x, f)
			told(t, f, true, -1, api.ErrFull, false)
			missing(t, x, k+1)
		}
		for k, slot := range where {
			f := x.Find(k)
			run(t, m, x, f)
			told(t, f, true, slot, api.OK, false)
			at(t, x, k, slot)
		}
	}
}

// P6.2: keys at the ends of the words are keys like others.
func TestKeysAtTheEnds(t *testing.T) {
	m, x := laid(t, 0, 7)
	for _, k := range []uint64{1, 1 << 32, 1 << 63, math.MaxInt64, math.MaxUint64 - 1, math.MaxUint64} {
		slot := put(t, m, x, k)
		f := x.Find(k)
		run(t, m, x, f)
		told(t, f, true, slot, api.OK, false)
	}
}

// P6.2: in a table of one slot the first key has it.
func TestOneSlot(t *testing.T) {
	m, x := laid(t, 2, 1)
	if slot := put(t, m, x, 77); slot != 0 {
		t.Fatalf("slot %d", slot)
	}
	f := x.Find(78)
	run(t, m, x, f)
	told(t, f, true, -1, api.ErrFull, false)
	f = x.Find(77)
	run(t, m, x, f)
	told(t, f, true, 0, api.OK, false)
	x.Clear()
	put(t, m, x, 78)
}

// P6.4: a finder whose swap failed finds the slot of the one that hit, if that had its key, and else another slot.
func TestSwapFailed(t *testing.T) {
	for slots := 2; slots <= 5; slots++ {
		keys := atHome(slots-1, slots, 2)
		for _, other := range []uint64{keys[0], keys[1]} {
			m, x := laid(t, 1, slots)
			f := x.Find(keys[0])
			// Where the swap comes is the table's business: the other one runs in between at each place.
			for ahead := 0; ; ahead++ {
				m, x = laid(t, 1, slots)
				f = x.Find(keys[0])
				for range ahead {
					step(t, m, f)
				}
				if f.Done() {
					t.Fatal("no swap failed")
				}
				g := x.Find(other)
				run(t, m, x, g)
				run(t, m, x, f)
				if m.Fails() > 0 {
					slot, _ := g.Slot()
					told(t, g, true, slot, api.OK, true)
					at(t, x, other, slot)
					break
				}
			}
			slot, _ := f.Slot()
			told(t, f, true, slot, api.OK, other != keys[0])
			at(t, x, keys[0], slot)
		}
	}
}

// P6.1: a finder is done within its steps, also if somebody is ahead of it at every slot; all slots have other keys then.
func TestAheadAtEverySlot(t *testing.T) {
	for slots := 1; slots <= 12; slots++ {
		keys := atHome(0, slots, slots+1)
		for lead := 1; lead <= 3; lead++ {
			m, x := laid(t, 0, slots)
			f := x.Find(keys[slots])
			steps, others := 0, 0
			for !f.Done() {
				if others < slots && steps%lead == 0 {
					put(t, m, x, keys[others])
					others++
				}
				step(t, m, f)
				steps++
				// Ahead of a swap: the slot that looked empty is taken.
				if others < slots && !f.Done() {
					put(t, m, x, keys[others])
					others++
				}
			}
			if steps > bound(x) {
				t.Fatalf("%d slots: %d steps", slots, steps)
			}
			slot, err := f.Slot()
			if err == api.OK {
				at(t, x, keys[slots], slot)
				continue
			}
			told(t, f, true, -1, api.ErrFull, false)
			if missing(t, x, keys[slots]); x.Len() != slots {
				t.Fatalf("ErrFull with %d of %d slots", x.Len(), slots)
			}
		}
	}
}

// P6.1: the bound on a finder's steps holds also where somebody empties and fills the slots under it.
func TestBoundWhateverOthersDo(t *testing.T) {
	const slots, period = 4, 6
	for pattern := range 1 << period {
		m, x := laid(t, 0, slots)
		f := x.Find(1)
		for n := 0; !f.Done(); n++ {
			if n == bound(x) {
				t.Fatalf("pattern %b: not done after %d steps", pattern, n)
			}
			x.Clear()
			for i := range slots * (pattern >> (n % period) & 1) {
				m.Store(i, 2)
			}
			step(t, m, f)
		}
	}
}

// crowd is finders that share a table.
type crowd struct {
	m       *mem.Mem
	x       *utable.Table
	keys    []uint64
	finders []*utable.Finder
	steps   []int
	stood   map[uint64]int
}

func gather(t *testing.T, slots int, keys []uint64) *crowd {
	m, x := laid(t, 2, slots)
	c := &crowd{m: m, x: x, keys: keys, steps: make([]int, len(keys)), stood: map[uint64]int{}}
	for _, k := range keys {
		c.finders = append(c.finders, x.Find(k))
	}
	return c
}

// step makes a step of the finder; no key may stand twice or move.
func (c *crowd) step(t *testing.T, i int) {
	t.Helper()
	step(t, c.m, c.finders[i])
	if c.steps[i]++; c.steps[i] > bound(c.x) {
		t.Fatalf("%d steps of %d slots", c.steps[i], c.x.Slots())
	}
	seen := map[uint64]int{}
	for slot := range c.x.Slots() {
		k := c.x.At(slot)
		if k == 0 {
			continue
		}
		if other, twice := seen[k]; twice {
			t.Fatalf("key %d stands in %d and in %d", k, other, slot)
		}
		if was, stood := c.stood[k]; stood && was != slot {
			t.Fatalf("key %d moved from %d to %d", k, was, slot)
		}
		seen[k], c.stood[k] = slot, slot
	}
	if len(seen) != len(c.stood) {
		t.Fatal("a key is gone")
	}
}

// waiting is the finders that aren't done.
func (c *crowd) waiting() []int {
	var l []int
	for i, f := range c.finders {
		if !f.Done() {
			l = append(l, i)
		}
	}
	return l
}

// check holds what the finders tell, all done, against the table; the keys of before were there when they began.
func (c *crowd) check(t *testing.T, before map[uint64]int) {
	t.Helper()
	made := map[uint64]int{}
	for i, f := range c.finders {
		if slot, err := f.Slot(); err != api.OK {
			told(t, f, true, -1, api.ErrFull, false)
			missing(t, c.x, c.keys[i])
			if c.x.Len() != c.x.Slots() {
				t.Fatalf("ErrFull with %d of %d slots", c.x.Len(), c.x.Slots())
			}
		} else {
			at(t, c.x, c.keys[i], slot)
		}
		if f.Made() {
			made[c.keys[i]]++
		}
	}
	for k := range c.stood {
		want := 1
		if _, was := before[k]; was {
			want = 0
		}
		if made[k] != want {
			t.Fatalf("key %d was made by %d, want %d", k, made[k], want)
		}
	}
	if len(c.stood) != c.x.Len() {
		t.Fatalf("Len %d, want %d", c.x.Len(), len(c.stood))
	}
}

// allTurns goes through all turns in which the finders of the keys can be stepped to their ends, and tells how many there are.
func allTurns(t *testing.T, slots int, keys []uint64) int {
	t.Helper()
	n := 0
	var from func(turns []int)
	from = func(turns []int) {
		c := gather(t, slots, keys)
		for _, i := range turns {
			c.step(t, i)
		}
		left := c.waiting()
		if len(left) == 0 {
			c.check(t, nil)
			n++
		}
		for _, i := range left {
			from(append(turns[:len(turns):len(turns)], i))
		}
	}
	from(nil)
	return n
}

// P6.4: finders of one key, and of several keys with one home, in all turns that there are: one slot a key, and one of them made it.
func TestAllTurns(t *testing.T) {
	for slots := 1; slots <= 3; slots++ {
		k := atHome(slots-1, slots, 3)
		crowds := [][]uint64{
			{k[0], k[0]}, {k[0], k[1]},
			{k[0], k[0], k[0]}, {k[0], k[0], k[1]},
		}
		if slots < 3 {
			crowds = append(crowds, []uint64{k[0], k[1], k[2]})
		}
		for _, keys := range crowds {
			if n := allTurns(t, slots, keys); n < 2 {
				t.Errorf("%d slots, keys %v: only %d ways to take turns", slots, keys, n)
			}
		}
	}
}

// draw is a row of numbers that look drawn.
type draw uint64

func (d *draw) next(below int) int {
	*d = *d*6364136223846793005 + 1442695040888963407
	return int(uint64(*d)>>33) % below
}

// P6.1, P6.2, P6.4: many finders in drawn turns, with keys that are there already and keys that find no room.
func TestDrawnTurns(t *testing.T) {
	d := draw(6)
	for range 400 {
		slots := 1 + d.next(12)
		pool := atHome(d.next(slots), slots, 4)
		for range 8 {
			pool = append(pool, uint64(1+d.next(1000)))
		}
		pool = pool[:1+d.next(len(pool))]
		var keys []uint64
		for range 1 + d.next(12) {
			keys = append(keys, pool[d.next(len(pool))])
		}
		c := gather(t, slots, keys)
		before := map[uint64]int{}
		for range d.next(slots + 1) {
			if k := pool[d.next(len(pool))]; before[k] == 0 {
				c.stood[k] = put(t, c.m, c.x, k)
				before[k]++
			}
		}
		for left := c.waiting(); len(left) > 0; left = c.waiting() {
			c.step(t, left[d.next(len(left))])
		}
		c.check(t, before)
	}
}

// P6.4: a finder that is left in the middle, wherever that is, keeps nobody from the end; and it may go on later.
func TestLeftInTheMiddle(t *testing.T) {
	keys := atHome(1, 4, 3)
	for before := range 3 {
		for ahead := 0; ; ahead++ {
			m, x := laid(t, 0, 4)
			for _, k := range keys[1 : 1+before] {
				put(t, m, x, k)
			}
			left := x.Find(keys[0])
			for range ahead {
				step(t, m, left)
			}
			if left.Done() {
				break
			}
			told(t, left, false, -1, api.ErrNone, false)
			for _, k := range []uint64{keys[2], keys[0], keys[1]} {
				f := x.Find(k)
				run(t, m, x, f)
				slot, err := f.Slot()
				if err != api.OK {
					t.Fatalf("key %d: %v", k, err)
				}
				at(t, x, k, slot)
			}
			slot, _ := x.Has(keys[0])
			run(t, m, x, left)
			told(t, left, true, slot, api.OK, false)
			if x.Len() != 3 {
				t.Fatalf("Len %d", x.Len())
			}
		}
	}
}

// P6.1, P6.3: two tables beside one another in the same cells know nothing of each other.
func TestTwoTables(t *testing.T) {
	m := mem.New(9)
	a, _ := utable.New(m, 1, 3)
	b, err := utable.New(m, 4, 4)
	if err != api.OK {
		t.Fatal(err)
	}
	fs := []*utable.Finder{a.Find(5), b.Find(5), a.Find(6), b.Find(6), a.Find(7), b.Find(7), b.Find(8)}
	for n := 0; n < bound(b); n++ {
		for _, f := range fs {
			step(t, m, f)
		}
	}
	for _, f := range fs {
		slot, _ := f.Slot()
		told(t, f, true, slot, api.OK, true)
	}
	if a.Len() != 3 || b.Len() != 4 || m.Load(0) != 0 || m.Load(8) != 0 {
		t.Errorf("Len %d, %d; the cells beside: %d, %d", a.Len(), b.Len(), m.Load(0), m.Load(8))
	}
	f := a.Find(8)
	run(t, m, a, f)
	told(t, f, true, -1, api.ErrFull, false)
	missing(t, a, 8)
	for slot := range 3 {
		if a.At(slot) != m.Load(1+slot) {
			t.Errorf("slot %d of the first one isn't its cell", slot)
		}
	}
	for slot := range 4 {
		if b.At(slot) != m.Load(4+slot) {
			t.Errorf("slot %d of the second one isn't its cell", slot)
		}
	}
	if a.At(3) != 0 || a.At(-1) != 0 || b.At(-1) != 0 || b.At(4) != 0 {
		t.Error("a slot of the other table is told")
	}
	a.Clear()
	if a.Len() != 0 || b.Len() != 4 {
		t.Errorf("behind the first one's Clear: Len %d, %d", a.Len(), b.Len())
	}
	put(t, m, a, 8)
	b.Clear()
	if a.Len() != 1 || b.Len() != 0 {
		t.Errorf("behind the second one's Clear: Len %d, %d", a.Len(), b.Len())
	}
}

// P6.3: At of slots that aren't there is 0, also where cells are.
func TestAtBesideTheSlots(t *testing.T) {
	m := mem.New(8)
	x, _ := utable.New(m, 2, 3)
	for _, i := range []int{0, 1, 5, 6, 7} {
		m.Store(i, 99)
	}
	for k := range uint64(3) {
		put(t, m, x, k+1)
	}
	for _, slot := range []int{math.MinInt, math.MinInt + 1, -3, -2, -1, 3, 4, 5, 6, math.MaxInt - 1, math.MaxInt} {
		if v := x.At(slot); v != 0 {
			t.Errorf("At(%d): %d", slot, v)
		}
	}
	sum := uint64(0)
	for slot := range 3 {
		sum += x.At(slot)
	}
	if sum != 6 || x.Len() != 3 {
		t.Errorf("the slots hold %d in all, Len %d", sum, x.Len())
	}
	missing(t, x, 99)
}

// P6.3: Clear empties the table's cells alone; keys are put anew, and finders that are done tell what they told.
func TestClear(t *testing.T) {
	m, x := laid(t, 2, 6)
	for _, i := range []int{0, 1, 8, 9, 10} {
		m.Store(i, 50)
	}
	x.Clear()
	f := x.Find(1)
	run(t, m, x, f)
	first, _ := f.Slot()
	for k := uint64(2); k <= 6; k++ {
		put(t, m, x, k)
	}
	x.Clear()
	if x.Len() != 0 || x.Slots() != 6 {
		t.Errorf("Len %d, Slots %d", x.Len(), x.Slots())
	}
	for slot := range 6 {
		if x.At(slot) != 0 {
			t.Errorf("slot %d holds %d", slot, x.At(slot))
		}
	}
	for _, i := range []int{0, 1, 8, 9, 10} {
		if m.Load(i) != 50 {
			t.Errorf("cell %d beside the table is cleared", i)
		}
	}
	for k := range uint64(7) {
		missing(t, x, k)
	}
	told(t, f, true, first, api.OK, true)
	for k := uint64(11); k <= 16; k++ {
		put(t, m, x, k)
	}
}

// P6.4: finders of several goroutines: one slot a key, and one of them made it.
func TestGoroutines(t *testing.T) {
	const workers, keys = 8, 50
	_, x := laid(t, 0, keys)
	var slots, made [workers][keys]int
	var all sync.WaitGroup
	for w := range workers {
		all.Go(func() {
			for i := range keys {
				k := (i + w*7) % keys
				f := x.Find(uint64(k + 1))
				for !f.Step() {
				}
				slots[w][k], _ = f.Slot()
				if f.Made() {
					made[w][k] = 1
				}
			}
		})
	}
	all.Wait()
	for k := range keys {
		n := 0
		for w := range workers {
			if slots[w][k] != slots[0][k] {
				t.Errorf("key %d: slots %d and %d", k+1, slots[0][k], slots[w][k])
			}
			n += made[w][k]
		}
		if n != 1 {
			t.Errorf("key %d was made by %d", k+1, n)
		}
		at(t, x, uint64(k+1), slots[0][k])
	}
	if x.Len() != keys {
		t.Errorf("Len %d", x.Len())
	}
}
