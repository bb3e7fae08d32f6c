package record

const groupBits = 7

// more is the bit of a byte that says that another group follows; a number
// below it is one group.
const more = 1 << groupBits

// zigzag is 2n or -2n - 1: so numbers near 0 have few groups on both sides.
func zigzag(n int) uint {
	if n < 0 {
		// ^n is -n - 1, which is an int even where -n is none.
		return uint(^n)<<1 | 1
	}
	return uint(n) << 1
}

// unzigzag is the number whose zigzag is z.
func unzigzag(z uint) int {
	n := int(z >> 1)
	if z&1 == 1 {
		return ^n
	}
	return n
}
