package result

import (
	"cmp"
	"slices"

	"noonbell/api"
	"noonbell/grid"
)

// name is what a participant calls an order or a group of its own.
type name struct {
	who    string
	number int
}

// Orders tells whether there may be such orders of such a grid: as many as all
// participants may have, each of its limits, by rising names, and each block's
// parents such that they come to an end.
func Orders(g api.Grid, steps []api.Step, blocks []api.Block) bool {
	if grid.Check(g) != api.OK || len(steps) > api.MaxWho*api.MaxSteps || len(blocks) > api.MaxWho*api.MaxBlocks {
		return false
	}
	for _, s := range steps {
		if !stepMay(g, s) {
			return false
		}
	}
	for _, b := range blocks {
		if !blockMay(g, b) {
			return false
		}
	}
	return rises(steps, stepName) && rises(blocks, blockName) && parentsEnd(blocks)
}

func stepMay(g api.Grid, s api.Step) bool {
	return isAmong(s.Zone, g.Zones) && isAmong(s.Hour, g.Hours) &&
		isBetween(1, s.Qty, api.MaxQty) && isBetween(g.Low, s.Price, g.High)
}

func blockMay(g api.Grid, b api.Block) bool {
	if !isAmong(b.Zone, g.Zones) || !isBetween(g.Low, b.Price, g.High) || len(b.Qty) != g.Hours {
		return false
	}
	return slices.Min(b.Qty) >= 0 && isBetween(1, slices.Max(b.Qty), api.MaxQty)
}

// rises tells whether each one's name is above that of the one ahead.
func rises[T any](l []T, nameOf func(T) name) bool {
	for i := range len(l) - 1 {
		if nameOf(l[i]).compare(nameOf(l[i+1])) >= 0 {
			return false
		}
	}
	return true
}

// parentsEnd tells whether each parent is there, and who goes from one to the
// next comes to an end.
func parentsEnd(blocks []api.Block) bool {
	called := map[name]api.Block{}
	for _, b := range blocks {
		called[blockName(b)] = b
	}
	for _, b := range blocks {
		for met := 0; b.Parent > 0; met++ {
			parent, is := called[parentName(b)]
			// Who meets more than there are goes round for ever.
			if !is || met == len(blocks) {
				return false
			}
			b = parent
		}
	}
	return true
}

func stepName(s api.Step) name { return name{s.Who, s.Seq} }

func blockName(b api.Block) name { return name{b.Who, b.Seq} }

func parentName(b api.Block) name { return name{b.Who, b.Parent} }

func groupName(b api.Block) name { return name{b.Who, b.Group} }

func (a name) compare(b name) int {
	return cmp.Or(cmp.Compare(a.who, b.who), cmp.Compare(a.number, b.number))
}

// isAmong tells whether there is one with this number, of so many from 0 on.
func isAmong(n, many int) bool {
	return isBetween(0, n, many-1)
}

func isBetween(low, n, high int) bool {
	return low <= n && n <= high
}
