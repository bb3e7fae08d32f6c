package rat

import (
	"noonbell/api"
	"noonbell/num"
)

// Neg answers it with the other sign.
func (a Rat) Neg() Rat {
	return Rat{a.top.Neg(), copied(a.more)}
}

// Add answers the sum.
func (a Rat) Add(b Rat) Rat {
	return joined(num.Num.Add, a, b)
}

// Sub answers the difference.
func (a Rat) Sub(b Rat) Rat {
	return joined(num.Num.Sub, a, b)
}

// Mul answers the product.
func (a Rat) Mul(b Rat) Rat {
	return lowest(a.top.Mul(b.top), a.Den().Mul(b.Den()))
}

// Div answers the quotient, or ErrZero if b is 0.
func (a Rat) Div(b Rat) (Rat, api.Errno) {
	return Make(a.top.Mul(b.Den()), a.Den().Mul(b.top))
}

// Cmp answers -1, 0, 1: a is below, the same as, above b.
func (a Rat) Cmp(b Rat) int {
	x, y := levelled(a, b)
	return x.Cmp(y)
}

// Floor answers the greatest whole number at most it.
func (a Rat) Floor() num.Num {
	down, _, _ := a.top.DivMod(a.Den())
	return down
}

// Round answers the nearest whole number; of two that are as near the even
// one.
func (a Rat) Round() num.Num {
	bottom := a.Den()
	down, rest, _ := a.top.DivMod(bottom)
	half := rest.Add(rest).Cmp(bottom)
	if half > 0 || half == 0 && isOdd(down) {
		return down.Add(num.Of(1))
	}
	return down
}

// joined is what sums and differences share: way puts the numerators
// together.
func joined(way func(x, y num.Num) num.Num, a, b Rat) Rat {
	return lowest(way(levelled(a, b)), a.Den().Mul(b.Den()))
}

// levelled answers the numerators of both over one denominator, the product
// of theirs.
func levelled(a, b Rat) (x, y num.Num) {
	return a.top.Mul(b.Den()), b.top.Mul(a.Den())
}

func isOdd(n num.Num) bool {
	_, rest, _ := n.DivMod(num.Of(2))
	return rest.Sign() != 0
}
