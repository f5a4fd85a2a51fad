package bits_test

import (
	"math"
	"testing"

	"spinney/bits"
)

// edgeWords are words at the borders of their fields, and some between.
var edgeWords = []uint64{
	0, 1, 2, 3, 1<<28 - 1, 1 << 28, 1<<28 + 1, 1<<32 - 1, 1 << 33, 1<<56 - 1, 1 << 56, 1<<63 - 1, 1 << 63, 1<<64 - 2, 1<<64 - 1,
	0x5555555555555555, 0xaaaaaaaaaaaaaaaa, 0x0123456789abcdef, 0xfedcba9876543210,
}

// eachWord hands over the edges and then n words of a sequence that hits all bits.
func eachWord(n int, do func(w uint64)) {
	for _, w := range edgeWords {
		do(w)
	}
	w := uint64(0x9e3779b97f4a7c15)
	for range n {
		w = w*6364136223846793005 + 1442695040888963407
		do(w)
		do(w >> 32)
	}
}

// put sets the bits of w from the place at on to the lowest n of x, bit by bit.
func put(w, x uint64, at, n int) uint64 {
	for i := range n {
		if x>>i&1 == 1 {
			w |= 1 << (at + i)
		} else {
			w &^= 1 << (at + i)
		}
	}
	return w
}

// P1.1: level in the highest eight bits, then 28 of low, then 28 of high.
func TestNodeLaysOutItsParts(t *testing.T) {
	children := []uint32{0, 1, 2, 1 << 14, 1<<27 - 1, 1 << 27, 1<<28 - 1, 1 << 28, 1<<28 + 5, 1 << 31, 0xf0000000, 0xefffffff, 1<<32 - 1}
	for level := range 256 {
		for _, low := range children {
			for _, high := range children {
				want := put(put(put(0, uint64(high), 0, 28), uint64(low), 28, 28), uint64(level), 56, 8)
				if got := bits.Node(uint8(level), low, high); got != want {
					t.Fatalf("Node(%d, %#x, %#x) = %#x, want %#x", level, low, high, got, want)
				}
			}
		}
	}
}

// P1.1: known words, told by hand.
func TestNodeKnownWords(t *testing.T) {
	cases := []struct {
		level     uint8
		low, high uint32
		want      uint64
	}{
		{0, 0, 0, 0},
		{1, 0, 0, 0x0100000000000000},
		{0, 1, 0, 0x0000000010000000},
		{0, 0, 1, 0x0000000000000001},
		{8, 2, 3, 0x0800000020000003},
		{255, 0x0fffffff, 0, 0xfffffffff0000000},
		{0, 0x10000000, 0xf0000000, 0},
		{255, 0xffffffff, 0xffffffff, 0xffffffffffffffff},
	}
	for _, c := range cases {
		if got := bits.Node(c.level, c.low, c.high); got != c.want {
			t.Errorf("Node(%d, %#x, %#x) = %#x, want %#x", c.level, c.low, c.high, got, c.want)
		}
	}
}

// P1.1, P1.3: what is packed is told again, but for the bits of low and high above 28.
func TestPartsTellsWhatWasPacked(t *testing.T) {
	eachWord(20000, func(w uint64) {
		level, low, high := uint8(w>>40), uint32(w>>17), uint32(w)
		gotLevel, gotLow, gotHigh := bits.Parts(bits.Node(level, low, high))
		if gotLevel != level || gotLow != low%(1<<28) || gotHigh != high%(1<<28) {
			t.Fatalf("Parts(Node(%d, %#x, %#x)) = %d, %#x, %#x", level, low, high, gotLevel, gotLow, gotHigh)
		}
	})
}

// P1.1, P1.3: every word is a packed node: its parts pack to it again.
func TestEveryWordIsPackedOfItsParts(t *testing.T) {
	eachWord(20000, func(w uint64) {
		level, low, high := bits.Parts(w)
		if low >= 1<<28 || high >= 1<<28 {
			t.Fatalf("Parts(%#x) = %d, %#x, %#x: more than 28 bits", w, level, low, high)
		}
		if got := bits.Node(level, low, high); got != w {
			t.Fatalf("Node(Parts(%#x)) = %#x", w, got)
		}
	})
}

// mixOf is the document's rule for Mix, step by step.
func mixOf(x uint64) uint64 {
	x ^= x >> 33
	x *= 0xff51afd7ed558ccd
	x ^= x >> 33
	x *= 0xc4ceb9fe1a85ec53
	x ^= x >> 33
	return x
}

// P1.1: Mix by its rule.
func TestMixKeepsItsRule(t *testing.T) {
	eachWord(20000, func(x uint64) {
		if got := bits.Mix(x); got != mixOf(x) {
			t.Fatalf("Mix(%#x) = %#x, want %#x", x, got, mixOf(x))
		}
	})
	if bits.Mix(0) != 0 || bits.Mix(1) != 0xb456bcfc34c2cb2c {
		t.Errorf("Mix(0), Mix(1) = %#x, %#x", bits.Mix(0), bits.Mix(1))
	}
}

// inverse of an odd number modulo 2^64; each round doubles the bits that are right.
func inverse(odd uint64) uint64 {
	x := odd
	for range 6 {
		x *= 2 - odd*x
	}
	return x
}

// unmix undoes the rule of Mix; a shift by more than half the bits undoes itself.
func unmix(x uint64) uint64 {
	x ^= x >> 33
	x *= inverse(0xc4ceb9fe1a85ec53)
	x ^= x >> 33
	x *= inverse(0xff51afd7ed558ccd)
	x ^= x >> 33
	return x
}

// P1.3: no two numbers mix to one: each can be had back, and each is reached.
func TestMixCanBeUndone(t *testing.T) {
	eachWord(20000, func(x uint64) {
		if got := unmix(bits.Mix(x)); got != x {
			t.Fatalf("unmix(Mix(%#x)) = %#x", x, got)
		}
		if got := bits.Mix(unmix(x)); got != x {
			t.Fatalf("Mix(unmix(%#x)) = %#x", x, got)
		}
	})
}

// P1.3: numbers that are alike but for a bit or two, and those that follow one another, mix apart.
func TestMixKeepsApart(t *testing.T) {
	from := map[uint64]uint64{}
	add := func(x uint64) {
		m := bits.Mix(x)
		if y, ok := from[m]; ok && y != x {
			t.Fatalf("Mix(%#x) = Mix(%#x) = %#x", x, y, m)
		}
		from[m] = x
	}
	for x := range uint64(1 << 16) {
		add(x)
		add(^x)
	}
	for i := range 64 {
		for j := range 64 {
			add(1<<i | 1<<j)
			add(^(1<<i | 1<<j))
		}
	}
}

// P1.1: Home is Mix modulo size.
func TestHomeIsMixModuloSize(t *testing.T) {
	sizes := []int{1, 2, 3, 7, 64, 255, 256, 1000, 1 << 15, 1 << 18, math.MaxInt32, math.MaxInt - 1, math.MaxInt}
	eachWord(5000, func(key uint64) {
		for _, size := range sizes {
			if got, want := bits.Home(key, size), int(mixOf(key)%uint64(size)); got != want {
				t.Fatalf("Home(%#x, %d) = %d, want %d", key, size, got, want)
			}
		}
	})
}

// P1.1: 0 of a size below 1.
func TestHomeOfNoSize(t *testing.T) {
	eachWord(100, func(key uint64) {
		for _, size := range []int{0, -1, -2, -64, math.MinInt32, math.MinInt + 1, math.MinInt} {
			if got := bits.Home(key, size); got != 0 {
				t.Fatalf("Home(%#x, %d) = %d, want 0", key, size, got)
			}
		}
	})
}

// onesOf counts bit by bit.
func onesOf(x uint64) int {
	n := 0
	for i := range 64 {
		n += int(x >> i & 1)
	}
	return n
}

// P1.2: Ones, from no bit to every bit.
func TestOnesCountsBits(t *testing.T) {
	eachWord(20000, func(x uint64) {
		if got := bits.Ones(x); got != onesOf(x) {
			t.Fatalf("Ones(%#x) = %d, want %d", x, got, onesOf(x))
		}
	})
	if bits.Ones(0) != 0 || bits.Ones(1<<64-1) != 64 {
		t.Errorf("Ones of no bit, of every bit: %d, %d", bits.Ones(0), bits.Ones(1<<64-1))
	}
}

// P1.2: Ones at each run of bits at each place.
func TestOnesOfRuns(t *testing.T) {
	for at := range 64 {
		for n := 0; at+n <= 64; n++ {
			run := put(0, 1<<64-1, at, n)
			if bits.Ones(run) != n || bits.Ones(^run) != 64-n {
				t.Fatalf("Ones(%#x), Ones(%#x) = %d, %d", run, ^run, bits.Ones(run), bits.Ones(^run))
			}
		}
	}
}

// P1.2: Spread at all its arguments.
func TestSpreadOfEveryByte(t *testing.T) {
	for x := range 256 {
		want := uint64(0)
		for i := range 8 {
			want = put(want, uint64(x>>i&1), 2*i, 1)
		}
		if got := bits.Spread(uint8(x)); uint64(got) != want {
			t.Fatalf("Spread(%#x) = %#x, want %#x", x, got, want)
		}
	}
	if bits.Spread(3) != 5 || bits.Spread(0) != 0 || bits.Spread(255) != 0x5555 || bits.Spread(128) != 1<<14 {
		t.Errorf("Spread of 3, 0, 255, 128: %#x, %#x, %#x, %#x", bits.Spread(3), bits.Spread(0), bits.Spread(255), bits.Spread(128))
	}
}

// P1.2: Gather at all its arguments, odd bits or none.
func TestGatherOfEveryWord(t *testing.T) {
	for x := range 1 << 16 {
		want := uint64(0)
		for i := range 8 {
			want = put(want, uint64(x>>(2*i)&1), i, 1)
		}
		if got := bits.Gather(uint16(x)); uint64(got) != want {
			t.Fatalf("Gather(%#x) = %#x, want %#x", x, got, want)
		}
	}
	if bits.Gather(0xaaaa) != 0 || bits.Gather(0xffff) != 255 {
		t.Errorf("Gather of the odd bits, of all bits: %#x, %#x", bits.Gather(0xaaaa), bits.Gather(0xffff))
	}
}

// P1.3: what is spread is gathered again, whatever stands in the odd bits.
func TestGatherUndoesSpread(t *testing.T) {
	for x := range 256 {
		for odd := range 256 {
			w := bits.Spread(uint8(x)) | bits.Spread(uint8(odd))<<1
			if got := bits.Gather(w); got != uint8(x) {
				t.Fatalf("Gather(%#x) = %#x, want %#x", w, got, x)
			}
		}
	}
}
