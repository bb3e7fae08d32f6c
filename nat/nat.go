// Package nat is layer 1: numbers from 0 on, as great as may be.
package nat

import (
	"math/bits"
	"slices"

	"noonbell/api"
)

// Nat is a number from 0 on. It never changes, and its zero value is 0.
//
// Its limbs stand least first, and the last one is never 0: so each number
// has one form alone, and Cmp may go by lengths first.
type Nat struct{ limbs []uint32 }

const limbBits = 32

// Of answers n.
func Of(n uint64) Nat {
	return Nat{trim([]uint32{uint32(n), uint32(n >> limbBits)})}
}

// Add answers the sum.
func (a Nat) Add(b Nat) Nat {
	sum := make([]uint32, max(len(a.limbs), len(b.limbs))+1)
	carry := uint64(0)
	for i := range len(sum) {
		total := a.limb(i) + b.limb(i) + carry
		sum[i] = uint32(total)
		carry = total >> limbBits
	}
	return Nat{trim(sum)}
}

// Sub answers the difference, or ErrBelow if b is greater.
func (a Nat) Sub(b Nat) (Nat, api.Errno) {
	if a.Cmp(b) < 0 {
		return Nat{}, api.ErrBelow
	}
	rest := make([]uint32, len(a.limbs))
	borrow := uint64(0)
	for i := range len(rest) {
		// Wraps round if it is below 0, and then its top bit is set.
		left := a.limb(i) - b.limb(i) - borrow
		rest[i] = uint32(left)
		borrow = left >> 63
	}
	return Nat{trim(rest)}, api.OK
}

// Mul answers the product.
func (a Nat) Mul(b Nat) Nat {
	product := make([]uint32, len(a.limbs)+len(b.limbs))
	for i := range len(a.limbs) {
		addTimes(product[i:], b.limbs, a.limbs[i])
	}
	return Nat{trim(product)}
}

// DivMod answers the quotient and what is left, or ErrZero if b is 0.
func (a Nat) DivMod(b Nat) (Nat, Nat, api.Errno) {
	switch {
	case len(b.limbs) == 0:
		return Nat{}, Nat{}, api.ErrZero
	case len(a.limbs) < len(b.limbs):
		return Nat{}, a.copied(), api.OK
	case a.fitsWord():
		x, y := a.word(), b.word()
		return Of(x / y), Of(x % y), api.OK
	case len(b.limbs) == 1:
		quotient := slices.Clone(a.limbs)
		rest := divideByLimb(quotient, b.limbs[0])
		return Nat{trim(quotient)}, Of(uint64(rest)), api.OK
	}
	quotient, rest := divide(a.limbs, b.limbs)
	return Nat{trim(quotient)}, Nat{trim(rest)}, api.OK
}

// Gcd answers the greatest number that divides both; if one is 0, the other.
func (a Nat) Gcd(b Nat) Nat {
	for len(b.limbs) > 0 {
		if a.fitsWord() && b.fitsWord() {
			return Of(gcdOfWords(a.word(), b.word()))
		}
		_, rest, _ := a.DivMod(b)
		a, b = b, rest
	}
	return a.copied()
}

// Cmp answers -1, 0, 1: a is below, the same as, above b.
func (a Nat) Cmp(b Nat) int {
	n := len(a.limbs)
	switch {
	case n < len(b.limbs):
		return -1
	case n > len(b.limbs):
		return 1
	}
	for i := range n {
		x, y := a.limbs[n-1-i], b.limbs[n-1-i]
		switch {
		case x < y:
			return -1
		case x > y:
			return 1
		}
	}
	return 0
}

// Bits answers how many binary digits it has; 0 of 0.
func (a Nat) Bits() int {
	n := len(a.limbs)
	if n == 0 {
		return 0
	}
	return (n-1)*limbBits + bits.Len32(a.limbs[n-1])
}

// limb is 0 behind the end, so that numbers of other lengths go together.
func (a Nat) limb(i int) uint64 {
	if i < len(a.limbs) {
		return uint64(a.limbs[i])
	}
	return 0
}

// copied is what is answered where a number is its own answer: no answer
// shares memory with an argument.
func (a Nat) copied() Nat {
	return Nat{slices.Clone(a.limbs)}
}

// fitsWord tells whether the machine's own arithmetic can take it: most
// numbers are small, and it is many times as fast.
func (a Nat) fitsWord() bool {
	return len(a.limbs) <= 2
}

// word is the number itself, if it fitsWord.
func (a Nat) word() uint64 {
	return a.limb(1)<<limbBits | a.limb(0)
}

func gcdOfWords(x, y uint64) uint64 {
	for y > 0 {
		x, y = y, x%y
	}
	return x
}
