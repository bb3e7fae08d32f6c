package num

import "noonbell/api"

// QuoRem answers the quotient, cut towards 0, and what is left, of a's sign
// or 0; ErrZero if b is 0.
func (a Num) QuoRem(b Num) (Num, Num, api.Errno) {
	return divided(a.cut, b)
}

// DivMod answers the quotient, rounded down, and what is left, of b's sign or
// 0; ErrZero if b is 0.
func (a Num) DivMod(b Num) (Num, Num, api.Errno) {
	return divided(a.floored, b)
}

// divided keeps both ways of dividing from a divisor of 0.
func divided(way func(Num) (Num, Num), b Num) (Num, Num, api.Errno) {
	if b.Sign() == 0 {
		return Num{}, Num{}, api.ErrZero
	}
	quotient, rest := way(b)
	return quotient, rest, api.OK
}

// cut is QuoRem where b is not 0.
func (a Num) cut(b Num) (Num, Num) {
	quotient, rest, _ := a.Nat.DivMod(b.Nat)
	return signed(a.below != b.below, quotient), signed(a.below, rest)
}

// floored is DivMod where b is not 0.
func (a Num) floored(b Num) (Num, Num) {
	quotient, rest := a.cut(b)
	// Cut towards 0 it was rounded up only where the quotient is below 0.
	if a.below == b.below || rest.Sign() == 0 {
		return quotient, rest
	}
	return quotient.Sub(Of(1)), rest.Add(b)
}
