package tableau

import "noonbell/rat"

// list is a list of fractions over one denominator, as small as may be: else
// each of them would be brought to its lowest terms by itself, which takes
// many times as long where their numbers are great.
type list struct {
	// Whole numbers.
	tops []rat.Rat
	// A whole number above 0.
	bottom rat.Rat
}

func listOf(numbers []int) list {
	l := list{bottom: rat.Of(1)}
	for _, n := range numbers {
		l.tops = append(l.tops, rat.Of(n))
	}
	return l
}

func (l list) isZero(at int) bool {
	return l.tops[at].Sign() == 0
}

func (l list) number(at int) rat.Rat {
	return quotient(l.tops[at], l.bottom)
}

// divided is the list divided by its number there, which is not 0.
func (l list) divided(at int) list {
	// What all are over falls out.
	return lowest(l.tops, l.tops[at])
}

// cleared is the list less the pivot, taken so many times that it is 0 there;
// the pivot is 1 there.
func (l list) cleared(at int, pivot list) list {
	if l.isZero(at) {
		return l
	}
	// In lowest terms, so that no number grows by what both have in common.
	ratio := quotient(l.tops[at], pivot.bottom)
	share := denominator(ratio)
	times := ratio.Mul(share)
	var tops []rat.Rat
	for i, top := range l.tops {
		tops = append(tops, top.Mul(share).Sub(pivot.tops[i].Mul(times)))
	}
	return lowest(tops, l.bottom.Mul(share))
}

// lowest is the list of these tops over the bottom, all of them whole numbers;
// the bottom is not 0.
func lowest(tops []rat.Rat, bottom rat.Rat) list {
	if isOne(bottom) {
		return list{tops, bottom}
	}
	// Of the bottom's sign, so that what is left of the bottom is above 0.
	common := bottom
	for _, top := range tops {
		// Without what the top lacks of it.
		common = quotient(common, denominator(quotient(top, common)))
	}
	l := list{bottom: quotient(bottom, common)}
	for _, top := range tops {
		l.tops = append(l.tops, quotient(top, common))
	}
	return l
}

func isOne(n rat.Rat) bool {
	return n.Cmp(rat.Of(1)) == 0
}

// quotient is a / b; b is not 0.
func quotient(a, b rat.Rat) rat.Rat {
	q, _ := a.Div(b)
	return q
}

func denominator(n rat.Rat) rat.Rat {
	// No error: what it is divided by is 1.
	whole, _ := rat.Make(n.Den(), rat.Of(1).Num())
	return whole
}
