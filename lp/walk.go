package lp

import "noonbell/rat"

// descend goes from basis to basis, at a toll as low as may be, till all rows
// are met: none is answered; or till there is one that nothing can meet: that
// row. (The dual simplex method.)
func (s simplex) descend() int {
	idle := 0
	for {
		row := s.unmet(s.isHasty(idle))
		if row == none {
			return none
		}
		column := s.meeting(row)
		if column == none {
			return row
		}
		idle = idleNow(idle, s.number(s.toll(), column))
		s.Pivot(row, column)
	}
}

// climb goes from one feasible point to a better one, till there is no better
// one: none is answered; or till nothing bars the way: the column that grows
// on it. (The primal simplex method.)
func (s simplex) climb() int {
	idle := 0
	for {
		column := s.better(s.isHasty(idle))
		if column == none {
			return none
		}
		row := s.barring(column)
		if row == none {
			return column
		}
		idle = idleNow(idle, s.number(row, s.right()))
		s.Pivot(row, column)
	}
}

// isHasty tells whether to take what promises most, which mostly needs the
// fewest pivots. Where nothing was gained for long that may go round for ever;
// what comes first in the order of the columns is taken then, till something
// is gained: that ends, by Bland's rule.
func (s simplex) isHasty(idle int) bool {
	return idle < 3*s.Columns()
}

// idleNow is how many pivots there are of late that gain nothing, with one
// that gains something if this number is not 0.
func idleNow(idle int, gain rat.Rat) int {
	if gain.Sign() != 0 {
		return 0
	}
	return idle + 1
}

// unmet is the row whose basis is furthest from what it may be, if hasty; else
// the first one.
func (s simplex) unmet(hasty bool) int {
	basis := s.Basis()
	return least(s.inside(), func(row int) (rat.Rat, bool) {
		n := s.number(row, s.right())
		if n.Sign() > 0 && s.isNought(basis[row]) {
			n = n.Neg()
		}
		return promise(n, hasty), n.Sign() < 0
	})
}

// better is the column by which the goal gains most, if hasty; else the first
// one.
func (s simplex) better(hasty bool) int {
	return least(s.outside(), func(column int) (rat.Rat, bool) {
		n := s.number(s.goal(), column)
		return promise(n, hasty), n.Sign() < 0
	})
}

// promise is the number, if hasty; else the same for all.
func promise(n rat.Rat, hasty bool) rat.Rat {
	if hasty {
		return n
	}
	return rat.Of(0)
}

// meeting is the column that meets the row at the least toll.
func (s simplex) meeting(row int) int {
	sign := s.number(row, s.right()).Sign()
	return least(s.outside(), func(column int) (rat.Rat, bool) {
		n := s.number(row, column)
		if n.Sign() != sign {
			return rat.Rat{}, false
		}
		return ratio(s.number(s.toll(), column), n), true
	})
}

// barring is the row that is met no more, first of all, as the column grows.
func (s simplex) barring(column int) int {
	return least(s.inside(), func(row int) (rat.Rat, bool) {
		n := s.number(row, column)
		if n.Sign() <= 0 {
			return rat.Rat{}, false
		}
		return ratio(s.number(row, s.right()), n), true
	})
}

// ratio is a, which is at least 0, divided by the size of b, which is not 0.
func ratio(a, b rat.Rat) rat.Rat {
	q, _ := a.Div(b)
	if q.Sign() < 0 {
		return q.Neg()
	}
	return q
}

// expel takes the columns that must stay 0 out of the basis, at a feasible
// point. One whose row has no other column stays 0 whatever comes.
func (s simplex) expel() {
	basis := s.Basis()
	for row := range s.goal() {
		if !s.isNought(basis[row]) {
			continue
		}
		column := least(s.outside(), func(column int) (rat.Rat, bool) {
			return rat.Rat{}, s.At(row, column) != "0"
		})
		if column != none {
			// The point stays: the row has 0 on the right side.
			s.Pivot(row, column)
		}
	}
}
