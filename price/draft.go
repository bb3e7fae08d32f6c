package price

import (
	"noonbell/api"
	"noonbell/cert"
	"noonbell/lp"
	"noonbell/rat"
)

// draft is the problem of the prices, in the making. Its variables are by how
// much each price is above the least one of its place. Its C is 0 throughout:
// of prices that fit any will do.
type draft struct {
	cert.Problem
	places []place
	least  map[place]int
}

// lay answers a draft that holds each price within its bounds, and whether each
// has some.
func lay(g api.Grid, taken []share) (*draft, bool) {
	d := &draft{least: map[place]int{}}
	var greatest []int
	for hour := range g.Hours {
		for zone := range g.Zones {
			at := place{hour, zone}
			low, high, is := bounds(g, taken, at)
			if !is {
				return nil, false
			}
			d.places, greatest = append(d.places, at), append(greatest, high)
			d.least[at] = low
		}
	}
	d.C = make([]int, len(d.places))
	for i, at := range d.places {
		d.ask(map[place]int{at: 1}, -1, greatest[i])
	}
	return d, true
}

// ask lays a row: the prices, each so many times, stand to right as rel says.
func (d *draft) ask(times map[place]int, rel, right int) {
	var row []int
	for _, at := range d.places {
		row = append(row, times[at])
		right -= times[at] * d.least[at]
	}
	d.Rows, d.Rel, d.B = append(d.Rows, row), append(d.Rel, rel), append(d.B, right)
}

// fitLines asks of a line that could carry less that it does not go to where it
// is cheaper, and of one that could carry more that it is no dearer there.
func (d *draft) fitLines(g api.Grid, f [][]string) {
	for hour, flows := range f {
		for i, l := range g.Lines {
			rise := map[place]int{{hour, l.To}: 1, {hour, l.From}: -1}
			// No error: they are within.
			flow, _ := rat.Parse(flows[i])
			if flow.Cmp(rat.Of(-l.Cap)) > 0 {
				d.ask(rise, 1, 0)
			}
			if flow.Cmp(rat.Of(l.Cap)) < 0 {
				d.ask(rise, -1, 0)
			}
		}
	}
}

// fitBlocks asks of each accepted block that all its hours together bring at
// least what it sells for, or cost at most what it buys for.
func (d *draft) fitBlocks(blocks []api.Block, accept []bool) {
	for i, b := range blocks {
		if !accept[i] {
			continue
		}
		times, own := map[place]int{}, 0
		for hour, qty := range b.Qty {
			times[place{hour, b.Zone}] = qty
			own += qty * b.Price
		}
		if b.Buy {
			d.ask(times, -1, own)
		} else {
			d.ask(times, 1, own)
		}
	}
}

// prices are some that are as was asked, if there are such.
func (d *draft) prices() ([][]string, bool) {
	// No error: at most 39 rows of 9 numbers, none above 600000000.
	s, _ := lp.Solve(d.Problem)
	if s.Kind != lp.Optimal {
		return nil, false
	}
	var p [][]string
	for i, at := range d.places {
		if at.hour == len(p) {
			p = append(p, nil)
		}
		// No error: a solution tells texts of numbers.
		above, _ := rat.Parse(s.X[i])
		p[at.hour] = append(p[at.hour], rat.Of(d.least[at]).Add(above).Text())
	}
	return p, true
}
