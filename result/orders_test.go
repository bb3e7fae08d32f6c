package result_test

import (
	"slices"
	"testing"

	"noonbell/api"
	"noonbell/result"
)

const (
	least    = -1 << 63
	greatest = 1<<63 - 1
)

func wantOrders(t *testing.T, g api.Grid, steps []api.Step, blocks []api.Block, is bool) {
	t.Helper()
	for range 2 {
		if result.Orders(g, steps, blocks) != is {
			t.Errorf("Orders of %+v, %+v, %+v: %t", g, steps, blocks, !is)
		}
	}
	// What they are not is the first that Check tells; of what they are, the
	// shape of an empty result.
	if n := result.Check(g, steps, blocks, api.Result{}); !is && n != 1 {
		t.Errorf("Check of %+v, %+v, %+v: %d", g, steps, blocks, n)
	}
}

func TestP161Ordinary(t *testing.T) {
	g := gridOf(2, 2, line(0, 1, 5))
	wantOrders(t, g, nil, nil, true)
	c := rich()
	wantOrders(t, c.g, c.steps, c.blocks, true)
	wantOrders(t, c.g, c.steps, nil, true)
	wantOrders(t, c.g, nil, c.blocks, true)
	e := example()
	wantOrders(t, e.g, e.steps, e.blocks, true)
}

func TestP161Grid(t *testing.T) {
	for _, g := range []api.Grid{
		{},
		gridOf(0, 1), gridOf(-1, 1), gridOf(4, 1), gridOf(1<<62, 1), gridOf(least, 1),
		gridOf(1, 0), gridOf(1, -1), gridOf(1, 4), gridOf(1, greatest),
		gridOf(2, 1, line(0, 2, 1)), gridOf(2, 1, line(1, 1, 1)), gridOf(2, 1, line(-1, 1, 1)),
		gridOf(2, 1, line(0, 1, -1)), gridOf(2, 1, line(0, 1, 1001)),
		gridOf(2, 1, line(0, 1, 1), line(0, 1, 1), line(0, 1, 1), line(0, 1, 1)),
		{Zones: 1, Hours: 1, Low: 1, High: 0},
		{Zones: 1, Hours: 1, Low: -100001, High: 0},
		{Zones: 1, Hours: 1, Low: 0, High: 100001},
	} {
		wantOrders(t, g, nil, nil, false)
		wantOrders(t, g, []api.Step{sells("a", 1, 0, 1, 0)}, []api.Block{gives("a", 1, 0, 0, 1)}, false)
	}
	wantOrders(t, gridOf(1, 1), nil, nil, true)
	wantOrders(t, gridOf(3, 3, line(0, 1, 0), line(2, 1, 1000), line(0, 1, 1)), nil, nil, true)
}

func TestP161HowMany(t *testing.T) {
	g := gridOf(1, 1)
	for many := range 70 {
		var steps []api.Step
		var blocks []api.Block
		for i := range many {
			steps = append(steps, sells("a", i+1, 0, 1, 0))
			blocks = append(blocks, gives("a", i+1, 0, 0, 1))
		}
		wantOrders(t, g, steps, nil, many <= 32)
		wantOrders(t, g, nil, blocks, many <= 12)
		wantOrders(t, g, steps, blocks, many <= 12)
		wantOrders(t, g, steps, blocks[:min(12, many)], many <= 32)
	}
}

func TestP161Steps(t *testing.T) {
	for zones := 1; zones <= 3; zones++ {
		for hours := 1; hours <= 3; hours++ {
			g := gridOf(zones, hours)
			for _, n := range []int{least, -2, -1, 0, 1, 2, 3, 4, greatest} {
				for _, buy := range []bool{false, true} {
					s := api.Step{Who: "a", Seq: 1, Buy: buy, Qty: 1}
					s.Zone = n
					wantOrders(t, g, []api.Step{s}, nil, n >= 0 && n < zones)
					s.Zone, s.Hour = 0, n
					wantOrders(t, g, []api.Step{s}, nil, n >= 0 && n < hours)
				}
			}
		}
	}
	g := gridOf(1, 1)
	first := sells("a", 1, 0, 1, 0)
	for n, is := range map[int]bool{least: false, -1000: false, -1: false, 0: false, 1: true, 2: true, 999: true, 1000: true, 1001: false, greatest: false} {
		wantOrders(t, g, []api.Step{sells("a", 1, 0, n, 0)}, nil, is)
		wantOrders(t, g, []api.Step{buys("a", 1, 0, n, 0)}, nil, is)
		wantOrders(t, g, []api.Step{first, sells("a", 2, 0, n, 0), sells("a", 3, 0, 1, 0)}, nil, is)
	}
	for _, g := range priced() {
		for _, n := range []int{least, -100001, -100000, -501, -500, -499, -1, 0, 1, 6, 7, 8, 2999, 3000, 3001, 100000, 100001, greatest} {
			is := n >= g.Low && n <= g.High
			wantOrders(t, g, []api.Step{sells("a", 1, 0, 1, n)}, nil, is)
			wantOrders(t, g, []api.Step{buys("a", 1, 0, 1, n)}, nil, is)
			wantOrders(t, g, []api.Step{buys("a", 1, 0, 1, g.Low), sells("b", 1, 0, 1, n)}, nil, is)
			wantOrders(t, g, nil, []api.Block{gives("a", 1, 0, n, 1)}, is)
			wantOrders(t, g, nil, []api.Block{takes("a", 1, 0, n, 1)}, is)
			wantOrders(t, g, nil, []api.Block{gives("a", 1, 0, g.High, 1), takes("b", 1, 0, n, 1)}, is)
		}
	}
}

// priced are grids of several limits of prices.
func priced() []api.Grid {
	var l []api.Grid
	for _, limits := range [][2]int{{-500, 3000}, {0, 0}, {7, 7}, {-100000, 100000}, {1, 3000}, {-500, -1}} {
		l = append(l, api.Grid{Zones: 1, Hours: 1, Low: limits[0], High: limits[1]})
	}
	return l
}

func TestP161Blocks(t *testing.T) {
	for zones := 1; zones <= 3; zones++ {
		for _, n := range []int{least, -1, 0, 1, 2, 3, 4, greatest} {
			is := n >= 0 && n < zones
			wantOrders(t, gridOf(zones, 1), nil, []api.Block{gives("a", 1, n, 0, 1)}, is)
			wantOrders(t, gridOf(zones, 1), nil, []api.Block{gives("a", 1, 0, 0, 1), takes("a", 2, n, 0, 1)}, is)
		}
	}
	for hours := 1; hours <= 3; hours++ {
		for many := range 6 {
			wantOrders(t, gridOf(1, hours), nil, []api.Block{gives("a", 1, 0, 0, slices.Repeat([]int{1}, many)...)}, many == hours)
		}
		// Each hour's limits, whatever the others are.
		for hour := range hours {
			for n, is := range map[int]bool{least: false, -1001: false, -1: false, 0: true, 1: true, 1000: true, 1001: false, greatest: false} {
				for _, rest := range []int{0, 1, 1000} {
					q := slices.Repeat([]int{rest}, hours)
					q[hour] = n
					wantOrders(t, gridOf(1, hours), nil, []api.Block{takes("a", 1, 0, 0, q...)}, is && slices.Max(q) > 0)
				}
			}
		}
		wantOrders(t, gridOf(1, hours), nil, []api.Block{gives("a", 1, 0, 0, make([]int, hours)...)}, false)
		wantOrders(t, gridOf(1, hours), nil, []api.Block{{Who: "a", Seq: 1}}, false)
	}
}

// named are lists of names that rise strictly, and such that do not.
func named() (rising, others [][]order) {
	return [][]order{
		{{"a", 1}, {"a", 2}},
		{{"a", 1}, {"b", 1}},
		{{"a", 9}, {"b", 1}},
		{{"", 1}, {"a", 1}},
		{{"a", 1}, {"aa", 1}},
		{{"aa", 1}, {"b", 1}},
		{{"Z", 1}, {"a", 1}},
		{{"z", 1}, {"α", 1}},
		{{"a", 9}, {"a", 10}},
		{{"a", -10}, {"a", -9}},
		{{"a", -1}, {"a", 0}, {"a", 1}},
		{{"a", least}, {"a", greatest}},
		{{"a", 1}, {"a", 3}, {"b", 2}, {"c", 1}, {"c", 1000}},
	}, [][]order{
		{{"a", 1}, {"a", 1}},
		{{"", 0}, {"", 0}},
		{{"a", 2}, {"a", 1}},
		{{"b", 1}, {"a", 1}},
		{{"b", 1}, {"a", 9}},
		{{"b", 1}, {"a", 1}, {"c", 1}},
		{{"a", 1}, {"c", 1}, {"b", 1}},
		{{"a", 1}, {"b", 1}, {"a", 2}},
		{{"a", 1}, {"b", 1}, {"b", 1}},
		{{"a", 2}, {"a", 1}, {"b", 1}},
		{{"aa", 1}, {"a", 2}},
		{{"a", greatest}, {"a", least}},
		{{"a", 10}, {"a", 9}},
	}
}

// order is whose it is, and its number.
type order struct {
	who string
	seq int
}

func TestP161Rising(t *testing.T) {
	ask := func(l []order, is bool) {
		var steps []api.Step
		var blocks []api.Block
		for _, n := range l {
			steps = append(steps, sells(n.who, n.seq, 0, 1, 0))
			blocks = append(blocks, gives(n.who, n.seq, 0, 0, 1))
		}
		wantOrders(t, gridOf(1, 1), steps, nil, is)
		wantOrders(t, gridOf(1, 1), nil, blocks, is)
		// The same names may be a step's and a block's.
		wantOrders(t, gridOf(1, 1), steps, blocks, is)
	}
	rising, others := named()
	for _, l := range rising {
		ask(l, true)
	}
	for _, l := range others {
		ask(l, false)
	}
	// By nothing else: hours, zones, sides and prices may come in any order.
	steps := []api.Step{buys("a", 1, 1, 9, 50), inHour(1, sells("a", 2, 0, 1, 9)), sells("b", 1, 1, 4, 3)}
	wantOrders(t, gridOf(2, 2), steps, nil, true)
}

// family are blocks of the participants a and b, by their names and parents.
func family(t *testing.T, is bool, l ...api.Block) {
	t.Helper()
	for i := range l {
		l[i].Qty = []int{1}
	}
	wantOrders(t, gridOf(1, 1), nil, l, is)
}

func child(who string, seq, parent int) api.Block {
	return api.Block{Who: who, Seq: seq, Parent: parent}
}

func TestP161Parents(t *testing.T) {
	family(t, true, child("a", 1, 0), child("a", 2, 1))
	family(t, true, child("a", 1, 2), child("a", 2, 0))
	family(t, true, child("a", 1, 0), child("a", 2, 1), child("a", 3, 1), child("a", 4, 1))
	family(t, true, child("a", 1, 0), child("a", 2, 1), child("a", 3, 2), child("b", 1, 0), child("b", 2, 1))
	family(t, true, child("a", 1, 3), child("a", 2, 0), child("a", 3, 2))
	// One that is no block.
	family(t, false, child("a", 1, 2))
	family(t, false, child("a", 1, 0), child("a", 2, 3))
	family(t, false, child("a", 1, 0), child("a", 2, greatest))
	family(t, false, child("a", 1, 2), child("a", 2, 3))
	// Another participant's.
	family(t, false, child("a", 1, 2), child("b", 2, 0))
	family(t, false, child("a", 1, 0), child("b", 2, 1))
	family(t, true, child("a", 1, 0), child("a", 2, 1), child("b", 2, 0))
	// Itself, also where there is another one behind it.
	family(t, false, child("a", 1, 1))
	family(t, false, child("a", 1, 0), child("a", 2, 2))
	family(t, false, child("a", 1, 1), child("a", 2, 1))
	// Two and more that are one another's.
	family(t, false, child("a", 1, 2), child("a", 2, 1))
	family(t, false, child("a", 1, 2), child("a", 2, 3), child("a", 3, 1))
	family(t, false, child("a", 1, 3), child("a", 2, 1), child("a", 3, 2))
	family(t, false, child("a", 1, 0), child("a", 2, 3), child("a", 3, 2), child("a", 4, 1))
	family(t, false, child("a", 1, 2), child("a", 2, 3), child("a", 3, 2))
	family(t, true, child("a", 1, 2), child("a", 2, 0), child("b", 1, 0), child("b", 2, 1))
	// None: 0 and below, whatever names there are.
	family(t, true, child("a", -1, 0), child("a", 0, -1), child("a", 1, 0))
	family(t, true, child("a", 1, -1), child("a", 2, -2), child("a", 3, least))
	family(t, true, child("a", -1, -1), child("a", 0, 0))
	family(t, true, child("a", -5, 2), child("a", 2, -5))
	family(t, true, child("a", 0, greatest), child("a", greatest, 0))
}

func TestP161ParentsOfMany(t *testing.T) {
	// All twelve, each of the one ahead or of the one behind, and round.
	for many := 1; many <= 12; many++ {
		var up, down, round []api.Block
		for i := 1; i <= many; i++ {
			up = append(up, child("a", i, i-1))
			down = append(down, child("a", i, (i+1)%(many+1)))
			round = append(round, child("a", i, i%many+1))
		}
		family(t, true, up...)
		family(t, true, down...)
		family(t, false, round...)
	}
}

// Of the parents of three blocks, all that there may be.
func TestP161AllParents(t *testing.T) {
	for n := range 5 * 5 * 5 {
		parents := []int{n%5 - 1, n/5%5 - 1, n/25 - 1}
		ends := true
		for i := range parents {
			at := i + 1
			for range 4 {
				if at >= 1 {
					at = parents[at-1]
				}
			}
			ends = ends && at < 1
		}
		family(t, ends, child("a", 1, parents[0]), child("a", 2, parents[1]), child("a", 3, parents[2]))
	}
}
