package lp

import (
	"noonbell/cert"
	"noonbell/rat"
	"noonbell/tableau"
)

// simplex is a problem as a tableau. Its columns: the variables; each row's
// SLACK, by which it is an equation; the RIGHT side. Its rows: the problem's,
// those with at least turned round to at most; the GOAL, which is C turned
// round; the TOLL, a price above 0 on each variable, so that there is a
// direction to go in while nothing feasible is found.
//
// Behind any pivots a row is a sum of those that were laid down, each so many
// times; how many times each of the problem's, its slack tells.
type simplex struct {
	*tableau.Tableau
	problem cert.Problem
}

// none is no row, and no column.
const none = -1

func lay(p cert.Problem) simplex {
	m, n := len(p.Rows), len(p.C)
	var rows [][]int
	var basis []int
	for i := range m {
		row := make([]int, n+m+1)
		for j := range n {
			row[j] = turn(p.Rel[i]) * p.Rows[i][j]
		}
		row[n+i], row[n+m] = 1, turn(p.Rel[i])*p.B[i]
		rows, basis = append(rows, row), append(basis, n+i)
	}
	goal, toll := make([]int, n+m+1), make([]int, n+m+1)
	for j := range n {
		goal[j] = -p.C[j]
		// Like the goal, so that less is left to do for that; no two of the
		// others the same, since each tie may cost pivots that gain nothing.
		toll[j] = max(j+1, goal[j])
	}
	// No error: at most 62 rows of 121 numbers. The goal's basis and the
	// toll's are not asked for.
	t, _ := tableau.New(append(rows, goal, toll), append(basis, 0, 0))
	return simplex{t, p}
}

// turn is what a row with this relation is taken times.
func turn(rel int) int {
	if rel > 0 {
		return -1
	}
	return 1
}

func (s simplex) goal() int { return len(s.problem.Rows) }

func (s simplex) toll() int { return len(s.problem.Rows) + 1 }

func (s simplex) slack(row int) int { return len(s.problem.C) + row }

func (s simplex) right() int { return s.slack(len(s.problem.Rows)) }

func (s simplex) number(row, column int) rat.Rat {
	// No error: a tableau tells texts of numbers.
	n, _ := rat.Parse(s.At(row, column))
	return n
}

// isNought tells whether the column must stay 0: a slack of a row with the
// same.
func (s simplex) isNought(column int) bool {
	row := column - s.slack(0)
	return row >= 0 && s.problem.Rel[row] == 0
}

// homes tells for each column the row whose basis it is, or none.
func (s simplex) homes() []int {
	rows := make([]int, s.right())
	for column := range s.right() {
		rows[column] = none
	}
	basis := s.Basis()
	for row := range s.goal() {
		rows[basis[row]] = row
	}
	return rows
}

// inside are the problem's rows, in the order of the columns that are their
// basis.
func (s simplex) inside() []int {
	var l []int
	home := s.homes()
	for column := range s.right() {
		if home[column] != none {
			l = append(l, home[column])
		}
	}
	return l
}

// outside are the columns that may come into the basis.
func (s simplex) outside() []int {
	var l []int
	home := s.homes()
	for column := range s.right() {
		if home[column] == none && !s.isNought(column) {
			l = append(l, column)
		}
	}
	return l
}

// least is the first one of those of which the least number is told; none, if
// none is told of any.
func least(of []int, tell func(int) (rat.Rat, bool)) int {
	at := none
	var low rat.Rat
	for _, i := range of {
		if n, ok := tell(i); ok && (at == none || n.Cmp(low) < 0) {
			at, low = i, n
		}
	}
	return at
}
