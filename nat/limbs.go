package nat

import "math/bits"

const maxLimb = 1<<limbBits - 1

// trim takes the noughts off the end; of 0 nil is left, as in the zero Nat.
func trim(limbs []uint32) []uint32 {
	n := len(limbs)
	for n > 0 && limbs[n-1] == 0 {
		n--
	}
	if n == 0 {
		return nil
	}
	return limbs[:n]
}

// addTimes adds factor times limbs to window, which is longer than limbs by
// one at least, and has 0 in the place just behind them.
func addTimes(window, limbs []uint32, factor uint32) {
	carry := uint64(0)
	for i := range len(limbs) {
		// At most (2^32 - 1)^2 and twice 2^32 - 1: just below 2^64.
		total := uint64(factor)*uint64(limbs[i]) + uint64(window[i]) + carry
		window[i] = uint32(total)
		carry = total >> limbBits
	}
	window[len(limbs)] = uint32(carry)
}

// scaleUp makes limbs factor times as great, and more added; there must be
// room for all of it.
func scaleUp(limbs []uint32, factor, more uint32) {
	carry := uint64(more)
	for i := range len(limbs) {
		total := uint64(limbs[i])*uint64(factor) + carry
		limbs[i] = uint32(total)
		carry = total >> limbBits
	}
}

// divideByLimb leaves the quotient in limbs, and answers what is left.
func divideByLimb(limbs []uint32, divisor uint32) uint32 {
	rest := uint64(0)
	n := len(limbs)
	for i := range n {
		whole := rest<<limbBits | uint64(limbs[n-1-i])
		limbs[n-1-i] = uint32(whole / uint64(divisor))
		rest = whole % uint64(divisor)
	}
	return uint32(rest)
}

// divide answers the quotient of a by b, and what is left. b has two limbs at
// least, the last one not 0, and a at least as many.
//
// It is long division, a limb a digit. Both are shifted till the divisor's top
// bit is set: then a digit that is guessed by the top limbs alone is never too
// small, and too great by two at most.
func divide(a, b []uint32) (quotient, rest []uint32) {
	shift := bits.LeadingZeros32(b[len(b)-1])
	divisor := shiftUp(b, shift)[:len(b)]
	rest = shiftUp(a, shift)
	count := len(a) - len(b) + 1
	quotient = make([]uint32, count)
digits:
	for i := range count {
		place := count - 1 - i
		window := rest[place : place+len(b)+1]
		digit := guessDigit(window, divisor)
		below := takeTimes(window, divisor, digit)
		for {
			if !below {
				quotient[place] = digit
				continue digits
			}
			digit--
			below = giveBack(window, divisor)
		}
	}
	shiftDown(rest, shift)
	return quotient, rest
}

// guessDigit goes by the window's top two limbs and the divisor's top one. The
// window is below 2^32 times the divisor, so no digit is above a limb.
func guessDigit(window, divisor []uint32) uint32 {
	n := len(divisor)
	top := uint64(window[n])<<limbBits | uint64(window[n-1])
	return uint32(min(top/uint64(divisor[n-1]), maxLimb))
}

// takeTimes takes digit times the divisor off the window, which is longer by
// one, and tells whether it went below 0; then it has wrapped round.
func takeTimes(window, divisor []uint32, digit uint32) bool {
	carry := uint64(0)
	for i := range len(divisor) {
		// At most (2^32 - 1) 2^32; where it is just that, low is 0, and carry
		// is not made greater: so carry stays below 2^32.
		total := uint64(digit)*uint64(divisor[i]) + carry
		low := uint32(total)
		carry = total >> limbBits
		if window[i] < low {
			carry++
		}
		window[i] -= low
	}
	n := len(divisor)
	below := uint64(window[n]) < carry
	window[n] -= uint32(carry)
	return below
}

// giveBack adds the divisor to a window that went below 0, and tells whether
// it is still below 0: else it wraps round the other way.
func giveBack(window, divisor []uint32) bool {
	carry := uint64(0)
	for i := range len(divisor) {
		total := uint64(window[i]) + uint64(divisor[i]) + carry
		window[i] = uint32(total)
		carry = total >> limbBits
	}
	n := len(divisor)
	total := uint64(window[n]) + carry
	window[n] = uint32(total)
	return total <= maxLimb
}

// shiftUp answers a list that is longer by one, shift bits up; shift is below
// a limb's.
func shiftUp(limbs []uint32, shift int) []uint32 {
	shifted := make([]uint32, len(limbs)+1)
	carry := uint64(0)
	for i := range len(limbs) {
		moved := uint64(limbs[i])<<shift | carry
		shifted[i] = uint32(moved)
		carry = moved >> limbBits
	}
	shifted[len(limbs)] = uint32(carry)
	return shifted
}

// shiftDown moves limbs by shift bits, where they stand.
func shiftDown(limbs []uint32, shift int) {
	above := uint64(0)
	n := len(limbs)
	for i := range n {
		whole := above<<limbBits | uint64(limbs[n-1-i])
		limbs[n-1-i] = uint32(whole >> shift)
		above = whole
	}
}
