package market

import (
	"iter"

	"noonbell/api"
	"noonbell/cert"
	"noonbell/grid"
)

// variable is how much goes from a zone to another one, and what each of it is
// worth. In a problem it stands from 0 on: for how much it is above its least.
type variable struct {
	from, to    int
	least, most int
	worth       int
}

// outside is no zone: what a step gives comes from there, what it takes goes
// there.
const outside = -1

// Build answers the problem of the hour's greatest welfare, where net is what
// the blocks give zone by zone: a variable for each of the hour's steps, then
// one for each line.
func Build(g api.Grid, steps []api.Step, hour int, net []int) cert.Problem {
	// Its lines may go to zones that there are not.
	if grid.Check(g) != api.OK || len(net) != g.Zones {
		return cert.Problem{}
	}
	l := variables(g, steps, hour)
	var p cert.Problem
	for i, v := range l {
		row := make([]int, len(l))
		row[i] = 1
		p.Rows, p.Rel, p.B = append(p.Rows, row), append(p.Rel, -1), append(p.B, v.most-v.least)
		p.C = append(p.C, v.worth)
	}
	for zone, given := range net {
		row := make([]int, len(l))
		right := -given
		for i, v := range l {
			row[i] = v.gives(zone)
			right -= row[i] * v.least
		}
		p.Rows, p.Rel, p.B = append(p.Rows, row), append(p.Rel, 0), append(p.B, right)
	}
	return p
}

// variables are those of the hour's steps, then those of the lines.
func variables(g api.Grid, steps []api.Step, hour int) []variable {
	var l []variable
	lay := func(from, to, least, most, worth int) {
		l = append(l, variable{from, to, least, most, worth})
	}
	for s := range ofHour(g, steps, hour) {
		if s.Buy {
			lay(s.Zone, outside, 0, s.Qty, bought(s.Buy, s.Price))
		} else {
			lay(outside, s.Zone, 0, s.Qty, bought(s.Buy, s.Price))
		}
	}
	for _, line := range g.Lines {
		lay(line.From, line.To, -line.Cap, line.Cap, 0)
	}
	return l
}

// gives is what the zone has more, for each that goes.
func (v variable) gives(zone int) int {
	switch zone {
	case v.to:
		return 1
	case v.from:
		return -1
	}
	return 0
}

// ofHour tells the steps of the hour, of zones that there are.
func ofHour(g api.Grid, steps []api.Step, hour int) iter.Seq[api.Step] {
	return func(yield func(api.Step) bool) {
		for _, s := range steps {
			if s.Hour == hour && isAmong(s.Zone, g.Zones) && !yield(s) {
				return
			}
		}
	}
}
