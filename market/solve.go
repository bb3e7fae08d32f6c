package market

import (
	"noonbell/api"
	"noonbell/cert"
	"noonbell/grid"
	"noonbell/lp"
	"noonbell/rat"
)

// Hour is what an hour comes to, with the blocks fixed: how much of each of
// its steps is taken, what flows on each line, and a price for each zone; none
// of these, if nothing is feasible.
type Hour struct {
	OK      bool
	X, F, P []string
	Welfare string
}

// Solve answers the hour's greatest welfare, where net is what the blocks give
// zone by zone, and prices that fit it. It answers ErrGrid ahead of ErrShape
// ahead of ErrMany.
func Solve(g api.Grid, steps []api.Step, hour int, net []int) (Hour, api.Errno) {
	if e := grid.Check(g); e != api.OK {
		return Hour{}, e
	}
	if len(net) != g.Zones {
		return Hour{}, api.ErrShape
	}
	p := Build(g, steps, hour, net)
	s, e := lp.Solve(p)
	if e != api.OK {
		return Hour{}, e
	}
	if s.Kind != lp.Optimal {
		return Hour{}, api.OK
	}
	return told(g, p, s), api.OK
}

// told is the hour of which this is the problem, and an optimum.
func told(g api.Grid, p cert.Problem, s lp.Solution) Hour {
	all := len(p.C)
	many := all - len(g.Lines)
	h := Hour{OK: true, Welfare: s.Value}
	h.X = append(h.X, s.X[:many]...)
	for i, line := range g.Lines {
		h.F = append(h.F, number(s.X[many+i]).Sub(rat.Of(line.Cap)).Text())
	}
	// Each variable has a row of its own ahead of the zones'. A zone's row weighs
	// what the welfare gains if one more is taken from there: less than nothing,
	// by the zone's price.
	for _, weight := range s.Y[all:] {
		h.P = append(h.P, number(weight).Neg().Text())
	}
	return h
}

func number(text string) rat.Rat {
	// No error: a solution tells texts of numbers.
	n, _ := rat.Parse(text)
	return n
}
