package mem_test

import (
	"math"
	"sync"
	"testing"

	"spinney/api"
	"spinney/mem"
)

// counted fails if the counters aren't the wanted ones.
func counted(t *testing.T, m *mem.Mem, ops, fails int, behind string) {
	t.Helper()
	if m.Ops() != ops || m.Fails() != fails {
		t.Errorf("behind %s: Ops %d, Fails %d, want %d, %d", behind, m.Ops(), m.Fails(), ops, fails)
	}
}

// P2.1: as many cells as are asked for, held from 0 to MaxCells, all 0.
func TestNewHoldsTheNumber(t *testing.T) {
	cases := []struct{ cells, want int }{
		{math.MinInt, 0}, {-api.MaxCells, 0}, {-1, 0}, {0, 0}, {1, 1}, {2, 2}, {77, 77},
		{api.MaxCells - 1, api.MaxCells - 1}, {api.MaxCells, api.MaxCells}, {api.MaxCells + 1, api.MaxCells},
		{1 << 40, api.MaxCells}, {math.MaxInt, api.MaxCells},
	}
	for _, c := range cases {
		m := mem.New(c.cells)
		if m.Len() != c.want {
			t.Errorf("New(%d): Len %d, want %d", c.cells, m.Len(), c.want)
		}
		counted(t, m, 0, 0, "New and Len")
		for i := range m.Len() {
			if v := m.Load(i); v != 0 {
				t.Fatalf("New(%d): cell %d is %d at the beginning", c.cells, i, v)
			}
		}
	}
}

// P2.1: the last cell is there, the one behind it isn't, at every length.
func TestLastCellIsThere(t *testing.T) {
	for _, n := range []int{1, 2, 5, 1000, api.MaxCells} {
		m := mem.New(n)
		m.Store(n-1, 6)
		if m.Load(n-1) != 6 || !m.CAS(n-1, 6, 7) || m.Add(n-1, 1) != 8 {
			t.Errorf("of %d cells the last one isn't there", n)
		}
		counted(t, m, 4, 0, "four accesses to the last cell")
		m.Store(n, 6)
		if m.Load(n) != 0 {
			t.Errorf("of %d cells there is one too many", n)
		}
		counted(t, m, 4, 0, "accesses beside it")
	}
}

// P2.1: Store writes its cell alone, Load tells it and leaves it.
func TestStoreAndLoad(t *testing.T) {
	m := mem.New(5)
	values := []uint64{0, 1, 1 << 31, 1 << 32, 1 << 63, math.MaxUint64}
	ops := 0
	for i := range m.Len() {
		for _, v := range values {
			m.Store(i, v)
			for range 2 {
				if got := m.Load(i); got != v {
					t.Errorf("cell %d: stored %d, loaded %d", i, v, got)
				}
			}
			ops += 3
			counted(t, m, ops, 0, "Store, Load, Load")
		}
		m.Store(i, uint64(100+i))
		ops++
	}
	for i := range m.Len() {
		if got := m.Load(i); got != uint64(100+i) {
			t.Errorf("cell %d is %d in the end", i, got)
		}
	}
}

// P2.1: a CAS that hits writes, one that fails writes nothing and is one of Fails; both are one of Ops.
func TestCAS(t *testing.T) {
	cases := []struct {
		name           string
		held, old, new uint64
		hit            bool
	}{
		{"hits at 0", 0, 0, 5, true},
		{"hits at a value", 5, 5, 9, true},
		{"hits at the highest", math.MaxUint64, math.MaxUint64, 0, true},
		{"hits, old and new the same", 7, 7, 7, true},
		{"hits, all 0", 0, 0, 0, true},
		{"fails at 0", 0, 5, 6, false},
		{"fails at a value", 5, 0, 6, false},
		{"fails by the highest bit", 1, 1<<63 + 1, 6, false},
		{"fails by the lowest half", 1 << 32, 0, 6, false},
		{"fails, new stands there", 6, 5, 6, false},
		{"fails, old and new the same", 5, 8, 8, false},
	}
	for _, c := range cases {
		m := mem.New(3)
		m.Store(1, c.held)
		if hit := m.CAS(1, c.old, c.new); hit != c.hit {
			t.Errorf("%s: %v", c.name, hit)
		}
		want, fails := c.held, 1
		if c.hit {
			want, fails = c.new, 0
		}
		counted(t, m, 2, fails, c.name)
		if m.Load(0) != 0 || m.Load(1) != want || m.Load(2) != 0 {
			t.Errorf("%s: the cells are %d, %d, %d", c.name, m.Load(0), m.Load(1), m.Load(2))
		}
	}
}

// P2.1: the chapter's example.
func TestCASAgain(t *testing.T) {
	m := mem.New(1)
	if !m.CAS(0, 0, 5) || m.CAS(0, 0, 5) {
		t.Error("CAS(0, 0, 5) isn't true, and then false")
	}
	counted(t, m, 2, 1, "both")
}

// P2.1: Add tells what the cell is then, modulo 2^64.
func TestAdd(t *testing.T) {
	cases := []struct{ held, d, want uint64 }{
		{0, 0, 0}, {0, 1, 1}, {5, 0, 5}, {5, 7, 12}, {1<<32 - 1, 1, 1 << 32}, {1<<63 - 1, 1, 1 << 63},
		{math.MaxUint64, 1, 0}, {1, math.MaxUint64, 0}, {9, math.MaxUint64 - 3, 5},
		{1 << 63, 1 << 63, 0}, {math.MaxUint64, math.MaxUint64, math.MaxUint64 - 1},
	}
	for _, c := range cases {
		m := mem.New(2)
		m.Store(1, c.held)
		if got := m.Add(1, c.d); got != c.want {
			t.Errorf("%d: Add(%d) tells %d, want %d", c.held, c.d, got, c.want)
		}
		counted(t, m, 2, 0, "Store, Add")
		if m.Load(1) != c.want || m.Load(0) != 0 {
			t.Errorf("%d: Add(%d) leaves %d, and %d beside it", c.held, c.d, m.Load(1), m.Load(0))
		}
	}
}

// P2.1: of a cell that isn't there each access tells nothing, does nothing, and isn't counted.
func TestCellsThatAreNotThere(t *testing.T) {
	for _, n := range []int{-3, 0, 1, 4, api.MaxCells + 1} {
		m := mem.New(n)
		for i := range min(m.Len(), 4) {
			m.Store(i, uint64(i+1))
		}
		ops := m.Ops()
		for _, i := range []int{math.MinInt, -api.MaxCells, -1 << 32, -2, -1, m.Len(), m.Len() + 1, api.MaxCells, 1 << 32, 1<<32 + 1, math.MaxInt} {
			m.Store(i, 5)
			if v := m.Load(i); v != 0 {
				t.Errorf("%d cells: Load(%d) tells %d", n, i, v)
			}
			if m.CAS(i, 0, 1) || m.CAS(i, 5, 5) || m.CAS(i, 7, 8) {
				t.Errorf("%d cells: a CAS of cell %d hits", n, i)
			}
			if v := m.Add(i, 3); v != 0 {
				t.Errorf("%d cells: Add(%d, 3) tells %d", n, i, v)
			}
			counted(t, m, ops, 0, "accesses beside the cells")
		}
		for i := range min(m.Len(), 4) {
			if m.Load(i) != uint64(i+1) {
				t.Errorf("%d cells: cell %d was touched", n, i)
			}
		}
	}
}

// P2.1: asking for Len, Ops and Fails is no access.
func TestAskingIsNotCounted(t *testing.T) {
	m := mem.New(1)
	m.CAS(0, 1, 2)
	for range 3 {
		m.Len()
		counted(t, m, 1, 1, "asking")
	}
}

// P2.1: what one object is told, another one doesn't hold.
func TestObjectsApart(t *testing.T) {
	a, b := mem.New(2), mem.New(2)
	a.Store(0, 4)
	a.CAS(1, 3, 4)
	if b.Load(0) != 0 {
		t.Error("a store shows in another object")
	}
	counted(t, a, 2, 1, "the one's accesses")
	counted(t, b, 1, 0, "the other one's")
}

// P2.1: a long run of accesses against cells of a plain list.
func TestAgainstPlainCells(t *testing.T) {
	const n = 3
	m, plain := mem.New(n), [n]uint64{}
	ops, fails := 0, 0
	draw := uint64(0x9e3779b97f4a7c15)
	next := func(below uint64) uint64 {
		draw = draw*6364136223846793005 + 1442695040888963407
		return draw >> 33 % below
	}
	for range 20000 {
		i, a, b := int(next(n+2))-1, next(4), next(4)
		there := i >= 0 && i < n
		var got, want uint64
		switch next(4) {
		case 0:
			got = m.Load(i)
			if there {
				want = plain[i]
			}
		case 1:
			m.Store(i, a)
			if there {
				plain[i] = a
			}
		case 2:
			if m.CAS(i, a, b) {
				got = 1
			}
			if there && plain[i] == a {
				plain[i], want = b, 1
			} else if there {
				fails++
			}
		case 3:
			got = m.Add(i, a-1)
			if there {
				plain[i] += a - 1
				want = plain[i]
			}
		}
		if there {
			ops++
		}
		if got != want {
			t.Fatalf("cell %d: told %d, want %d", i, got, want)
		}
		counted(t, m, ops, fails, "a long run")
		if t.Failed() {
			t.FailNow()
		}
	}
}

// together runs do in n goroutines and waits for all of them.
func together(n int, do func(who int)) {
	var all sync.WaitGroup
	for who := range n {
		all.Go(func() { do(who) })
	}
	all.Wait()
}

// P2.2: a CAS of one that is alone never fails where the cell is old.
func TestAloneNoCASFails(t *testing.T) {
	m := mem.New(1)
	for v := range uint64(100000) {
		if !m.CAS(0, v, v+1) {
			t.Fatalf("CAS fails at %d, and nobody else has written", v)
		}
	}
	counted(t, m, 100000, 0, "a lone run")
}

// P2.2: of many that try the same exchange just one hits; so whoever fails, another one has written.
func TestOneOfManyHits(t *testing.T) {
	const workers, rounds = 4, 2000
	m := mem.New(rounds)
	var hits [workers]int
	together(workers, func(who int) {
		for i := range rounds {
			if m.CAS(i, 0, uint64(who)+1) {
				hits[who]++
			}
		}
	})
	sum, held := 0, [workers]int{}
	for i := range rounds {
		v := m.Load(i)
		if v < 1 || v > workers {
			t.Fatalf("cell %d is %d", i, v)
		}
		held[v-1]++
	}
	for _, h := range hits {
		sum += h
	}
	if sum != rounds || held != hits {
		t.Errorf("%d cells, %d hits: who hit %v, who wrote %v", rounds, sum, hits, held)
	}
	counted(t, m, workers*rounds+rounds, (workers-1)*rounds, "all exchanges")
}

// P2.1, P2.2: sums by CAS and by Add lose nothing, and each access of each goroutine is counted.
func TestManyCount(t *testing.T) {
	if m := mem.New(1); !m.CAS(0, 0, 1) {
		t.Fatal("nothing can be counted: a lone CAS fails")
	}
	const workers, rounds = 4, 3000
	m := mem.New(2)
	var tries, fails [workers]int
	together(workers, func(who int) {
		for range rounds {
			for range 1 << 20 {
				v := m.Load(0)
				tries[who]++
				if m.CAS(0, v, v+1) {
					break
				}
				fails[who]++
			}
			m.Add(1, 2)
		}
	})
	ops, failed := workers*rounds, 0
	for who := range workers {
		ops += 2 * tries[who]
		failed += fails[who]
	}
	counted(t, m, ops, failed, "all of them")
	if a, b := m.Load(0), m.Load(1); a != workers*rounds || b != 2*workers*rounds {
		t.Errorf("the sums are %d and %d", a, b)
	}
}
