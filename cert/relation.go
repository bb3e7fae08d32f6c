package cert

import "cmp"

// relation is what a row's Rel allows, by signs: below 0, 0, above 0.
type relation struct {
	// Of how far the row times X is above its B.
	gap [3]bool
	// Of the row's y: the row times X, taken y times, is then at most its B
	// taken y times.
	y [3]bool
}

// relations are: at most, the same, at least.
var relations = [3]relation{
	{gap: [3]bool{true, true, false}, y: [3]bool{false, true, true}},
	{gap: [3]bool{false, true, false}, y: [3]bool{true, true, true}},
	{gap: [3]bool{false, true, true}, y: [3]bool{true, true, false}},
}

// place is where a sign stands in the tables; a Rel is told by its sign alone.
func place(n int) int {
	return cmp.Compare(n, 0) + 1
}

// keeps tells whether each number is at least 0, and each row times them
// stands to its b as it should.
func (l list) keeps(p Problem, b []int) bool {
	for _, top := range l.tops {
		if top.Sign() < 0 {
			return false
		}
	}
	for i, row := range p.Rows {
		if !relations[place(p.Rel[i])].gap[place(l.compare(row, b[i]))] {
			return false
		}
	}
	return true
}

// covers tells whether each number has a sign that its row allows, and the
// rows, each times its number, come to c at least, place by place.
func (l list) covers(p Problem, c []int) bool {
	for i, top := range l.tops {
		if !relations[place(p.Rel[i])].y[place(top.Sign())] {
			return false
		}
	}
	for at, least := range c {
		if l.compare(column(p.Rows, at), least) < 0 {
			return false
		}
	}
	return true
}

func column(rows [][]int, at int) []int {
	var l []int
	for _, row := range rows {
		l = append(l, row[at])
	}
	return l
}
