package lp

import "noonbell/rat"

// point is the variables of the basis, with all others 0.
func (s simplex) point() []string {
	x := make([]string, s.slack(0))
	home := s.homes()
	for column := range s.slack(0) {
		x[column] = "0"
		if row := home[column]; row != none {
			x[column] = s.At(row, s.right())
		}
	}
	return x
}

// along is by how much each variable grows while the column grows by 1.
func (s simplex) along(column int) []string {
	d := make([]string, s.slack(0))
	home := s.homes()
	for i := range s.slack(0) {
		d[i] = "0"
		if row := home[i]; row != none {
			d[i] = negated(s.At(row, column))
		}
	}
	// A slack is no variable.
	if column < s.slack(0) {
		d[column] = "1"
	}
	return d
}

// weights is how many times each of the problem's rows is in this row.
func (s simplex) weights(row int) []string {
	y := make([]string, s.goal())
	for i := range s.goal() {
		y[i] = s.At(row, s.slack(i))
		if turn(s.problem.Rel[i]) < 0 {
			y[i] = negated(y[i])
		}
	}
	return y
}

// against is the weights by which the row, which nothing can meet, shows that
// nothing is feasible.
func (s simplex) against(row int) []string {
	y := s.weights(row)
	if s.number(row, s.right()).Sign() < 0 {
		return y
	}
	// It is one with the same, and as good turned round.
	for i := range s.goal() {
		y[i] = negated(y[i])
	}
	return y
}

func negated(text string) string {
	// No error: it is a number's text.
	n, _ := rat.Parse(text)
	return n.Neg().Text()
}
