// Package bits: packing, mixing: see doc/01-bits.md.
package bits

// childBits is the width of a child in a packed node: two of them leave eight bits for the level.
const childBits = 28

const childMask = 1<<childBits - 1

// The multipliers are odd, so that Mix can be undone: no two numbers mix to one.
const (
	firstFactor  = 0xff51afd7ed558ccd
	secondFactor = 0xc4ceb9fe1a85ec53
)

// groups holds, for each k, the mask that keeps every other group of 1<<k bits, the lowest first.
var groups = [6]uint64{
	0x5555555555555555,
	0x3333333333333333,
	0x0f0f0f0f0f0f0f0f,
	0x00ff00ff00ff00ff,
	0x0000ffff0000ffff,
	0x00000000ffffffff,
}

// byteGroup is the entry of groups that keeps a byte whole: there a byte is neither spread nor gathered.
const byteGroup = 3

// width is how many bits a group of groups[k] has.
func width(k int) uint { return uint(1) << k }

// Node packs a level and its two children into one word; bits of a child above 28 are dropped.
func Node(level uint8, low, high uint32) uint64 {
	return uint64(level)<<(2*childBits) | uint64(low&childMask)<<childBits | uint64(high&childMask)
}

// Parts tells the level, low and high that were packed into w.
func Parts(w uint64) (uint8, uint32, uint32) {
	return uint8(w >> (2 * childBits)), uint32(w >> childBits & childMask), uint32(w & childMask)
}

// Mix scatters x over all 64 bits, each number to one of its own.
func Mix(x uint64) uint64 {
	x = fold(x) * firstFactor
	x = fold(x) * secondFactor
	return fold(x)
}

// fold brings the upper bits down to the lower ones, which a multiplication never does.
func fold(x uint64) uint64 { return x ^ x>>33 }

// Home is the place among size where the search for key begins; 0 of a size below 1.
func Home(key uint64, size int) int {
	if size < 1 {
		return 0
	}
	return int(Mix(key) % uint64(size))
}

// Ones tells how many bits of x are set.
func Ones(x uint64) int {
	for k, mask := range groups {
		// Neighbouring groups hold their own counts; their sum fits where the two lay.
		x = x&mask + x>>width(k)&mask
	}
	return int(x)
}

// Spread moves bit i of x to bit 2i; the bits between are 0.
func Spread(x uint8) uint16 {
	w := uint64(x)
	for k := byteGroup - 1; k >= 0; k-- {
		w = (w | w<<width(k)) & groups[k]
	}
	return uint16(w)
}

// Gather moves bit 2i of x to bit i; the odd bits are passed by.
func Gather(x uint16) uint8 {
	w := uint64(x) & groups[0]
	for k := range byteGroup {
		w = (w | w>>width(k)) & groups[k+1]
	}
	return uint8(w)
}
