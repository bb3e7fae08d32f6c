package clear

import (
	"slices"
	"strconv"

	"noonbell/api"
	"noonbell/market"
	"noonbell/rat"
	"noonbell/total"
)

// hour is what is best to take in one, if any part of an undecided block could
// be taken: all hours together are worth at least what each member is.
type hour struct {
	// Of each step of the hour, of each block, of each line.
	x, blocks, f []string
	worth        rat.Rat
}

// plan answers what is best in the hour, and whether anything is feasible.
func (s *search) plan(choices []choice, at int) (hour, bool) {
	steps, blocks := s.stepsIn(at), s.blocksIn(at)
	asked, accept := slices.Clone(steps), []bool{}
	for i, b := range blocks {
		accept = append(accept, choices[i] == accepted)
		if choices[i] == undecided {
			asked = append(asked, b)
		}
	}
	// No error: at most 44 orders, and 3 lines.
	best, _ := market.Solve(s.g, asked, at, market.Net(s.g, s.blocks, accept, at))
	if !best.OK {
		return hour{}, false
	}
	h := hour{x: best.X[:len(steps)], f: best.F}
	parts := best.X[len(steps):]
	for i, b := range blocks {
		if choices[i] == undecided {
			h.blocks, parts = append(h.blocks, parts[0]), parts[1:]
		} else {
			h.blocks = append(h.blocks, choices[i].of(b.Qty))
		}
	}
	// No error: all that is taken are numbers.
	h.worth, _ = rat.Parse(market.Welfare(slices.Concat(steps, blocks), slices.Concat(h.x, h.blocks), nil, nil))
	return h, true
}

// again answers what was best in the hour of the node that this one came of,
// and whether it still is: nothing else is decided than what is taken there.
func (s *search) again(n node, at int) (hour, bool) {
	if n.hours == nil {
		return hour{}, false
	}
	h := n.hours[at]
	for i, c := range n.choices {
		if c != undecided && h.blocks[i] != c.of(s.blocks[i].Qty[at]) {
			return hour{}, false
		}
	}
	return h, true
}

// of is how much of so much is taken.
func (c choice) of(qty int) string {
	if c == accepted {
		return strconv.Itoa(qty)
	}
	return "0"
}

func (s *search) stepsIn(at int) []api.Step {
	var l []api.Step
	for _, step := range s.steps {
		if step.Hour == at {
			l = append(l, step)
		}
	}
	return l
}

// blocksIn are what the blocks ask for in the hour, as steps.
func (s *search) blocksIn(at int) []api.Step {
	var l []api.Step
	for _, b := range s.blocks {
		l = append(l, api.Step{Zone: b.Zone, Hour: at, Buy: b.Buy, Qty: b.Qty[at], Price: b.Price})
	}
	return l
}

func worth(hours []hour) rat.Rat {
	var l []rat.Rat
	for _, h := range hours {
		l = append(l, h.worth)
	}
	return total.Of(l)
}

// share is how much of a block is taken, all hours together.
type share int

const (
	none share = iota
	all
	torn
)

func (s *search) share(hours []hour, i int) share {
	some, rest := false, false
	for at, h := range hours {
		some = some || h.blocks[i] != refused.of(s.blocks[i].Qty[at])
		rest = rest || h.blocks[i] != accepted.of(s.blocks[i].Qty[at])
	}
	switch {
	case some && rest:
		return torn
	case some:
		return all
	}
	return none
}

func (s *search) isWhole(hours []hour) bool {
	for i := range s.blocks {
		if s.share(hours, i) == torn {
			return false
		}
	}
	return true
}
