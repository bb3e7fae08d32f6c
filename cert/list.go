package cert

import (
	"noonbell/api"
	"noonbell/rat"
)

// list is a list of fractions over one denominator: else each sum of them
// would be brought to its lowest terms step by step, which takes long where
// their denominators are great and have little in common.
type list struct {
	// Whole numbers: a fraction has the sign of its top.
	tops []rat.Rat
	// A whole number above 0.
	bottom rat.Rat
}

// read answers the numbers whose texts these are, so many as there should be,
// or Check's error, ErrShape, ErrText.
func read(p Problem, texts []string, many int) (list, api.Errno) {
	if e := Check(p); e != api.OK {
		return list{}, e
	}
	if len(texts) != many {
		return list{}, api.ErrShape
	}
	var l []rat.Rat
	for _, text := range texts {
		n, e := rat.Parse(text)
		if e != api.OK {
			return list{}, api.ErrText
		}
		l = append(l, n)
	}
	return levelled(l), api.OK
}

func levelled(fractions []rat.Rat) list {
	l := list{bottom: rat.Of(1)}
	for _, n := range fractions {
		// What the bottom lacks to be a multiple of n's denominator, too.
		l.bottom = l.bottom.Mul(denominator(l.bottom.Mul(n)))
	}
	for _, n := range fractions {
		l.tops = append(l.tops, n.Mul(l.bottom))
	}
	return l
}

func denominator(n rat.Rat) rat.Rat {
	// No error: what it is divided by is 1.
	whole, _ := rat.Make(n.Den(), rat.Of(1).Num())
	return whole
}

// sum is that of the tops, each times its factor.
func (l list) sum(factors []int) rat.Rat {
	all := rat.Of(0)
	for i, n := range factors {
		all = all.Add(l.tops[i].Mul(rat.Of(n)))
	}
	return all
}

// times is the sum of the list's numbers, each times its factor.
func (l list) times(factors []int) rat.Rat {
	// No error: the bottom is above 0.
	all, _ := l.sum(factors).Div(l.bottom)
	return all
}

// compare answers -1, 0, 1: times of the factors is below, the same as, above
// n.
func (l list) compare(factors []int, n int) int {
	return l.sum(factors).Cmp(l.bottom.Mul(rat.Of(n)))
}
