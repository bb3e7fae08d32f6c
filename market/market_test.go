package market_test

import (
	"slices"
	"strings"
	"testing"

	"noonbell/api"
	"noonbell/market"
)

// gridOf is one of so many zones, two hours, prices from -500 to 3000.
func gridOf(zones int, lines ...api.Line) api.Grid {
	return api.Grid{Zones: zones, Hours: 2, Lines: lines, Low: -500, High: 3000}
}

func line(from, to, capacity int) api.Line {
	return api.Line{From: from, To: to, Cap: capacity}
}

// sells and buys are steps of hour 0.
func sells(zone, qty, price int) api.Step {
	return api.Step{Who: "a", Seq: 1, Zone: zone, Qty: qty, Price: price}
}

func buys(zone, qty, price int) api.Step {
	return api.Step{Who: "b", Seq: 1, Zone: zone, Buy: true, Qty: qty, Price: price}
}

// inHour is the step in that hour.
func inHour(hour int, s api.Step) api.Step {
	s.Hour = hour
	return s
}

// gives and takes are blocks.
func gives(zone, price int, qty ...int) api.Block {
	return api.Block{Who: "c", Seq: 1, Zone: zone, Price: price, Qty: qty}
}

func takes(zone, price int, qty ...int) api.Block {
	return api.Block{Who: "d", Seq: 1, Zone: zone, Buy: true, Price: price, Qty: qty}
}

// example is the document's: a sells 10 at 20, b buys 6 at 50.
func example() []api.Step { return []api.Step{sells(0, 10, 20), buys(0, 6, 50)} }

// all accepts so many blocks.
func all(many int) []bool { return slices.Repeat([]bool{true}, many) }

func words(line string) []string { return strings.Fields(line) }

// refused are grids that may not be.
func refused() []api.Grid {
	with := func(change func(g *api.Grid)) api.Grid {
		g := gridOf(2, line(0, 1, 5))
		change(&g)
		return g
	}
	return []api.Grid{
		{},
		gridOf(0), gridOf(-1), gridOf(4), gridOf(1 << 62), gridOf(-1 << 63),
		gridOf(1, line(0, 1, 5)), gridOf(2, line(0, 2, 5)), gridOf(2, line(-1, 0, 5)), gridOf(2, line(1, 1, 5)),
		gridOf(2, line(0, 1, -1)), gridOf(2, line(0, 1, 1001)),
		gridOf(2, line(0, 1, 5), line(0, 1, 5), line(0, 1, 5), line(0, 1, 5)),
		with(func(g *api.Grid) { g.Hours = 0 }), with(func(g *api.Grid) { g.Hours = 4 }),
		with(func(g *api.Grid) { g.Low = 3001 }), with(func(g *api.Grid) { g.Low = -100001 }), with(func(g *api.Grid) { g.High = 100001 }),
	}
}

func wantNet(t *testing.T, g api.Grid, blocks []api.Block, accept []bool, hour int, net ...int) {
	t.Helper()
	for range 2 {
		if got := market.Net(g, blocks, accept, hour); !slices.Equal(got, net) {
			t.Errorf("Net of %+v, %+v, %v, hour %d: %v, not %v", g, blocks, accept, hour, got, net)
		}
	}
}

func wantWelfare(t *testing.T, steps []api.Step, x string, blocks []api.Block, accept []bool, welfare string) {
	t.Helper()
	for range 2 {
		if got := market.Welfare(steps, words(x), blocks, accept); got != welfare {
			t.Errorf("Welfare of %+v, %s, %+v, %v: %q, not %q", steps, x, blocks, accept, got, welfare)
		}
	}
}

func TestP151Net(t *testing.T) {
	blocks := []api.Block{takes(0, 30, 4), gives(0, 5, 1)}
	wantNet(t, gridOf(1), blocks, []bool{true, true}, 0, -3)
	wantNet(t, gridOf(1), blocks, []bool{true, false}, 0, -4)
	wantNet(t, gridOf(1), blocks, []bool{false, true}, 0, 1)
	wantNet(t, gridOf(1), blocks, []bool{false, false}, 0, 0)
	wantNet(t, gridOf(1), nil, nil, 0, 0)
	wantNet(t, gridOf(3), nil, nil, 1, 0, 0, 0)
	// Each zone for itself, whatever lines there are.
	blocks = []api.Block{gives(2, 0, 7), takes(1, 9, 3), gives(2, -9, 100), takes(2, 8, 20), gives(1, 0, 1)}
	wantNet(t, gridOf(3), blocks, all(5), 0, 0, -2, 87)
	wantNet(t, gridOf(3, line(2, 1, 5), line(0, 1, 1000)), blocks, all(5), 0, 0, -2, 87)
	wantNet(t, gridOf(3), blocks, []bool{true, true, false, true, false}, 0, 0, -3, -13)
	// What they are beside that tells nothing.
	blocks = []api.Block{{Zone: 0, Qty: []int{5}, Parent: 9, Group: 2}, {Zone: 0, Qty: []int{6}, Parent: -1, Group: 2}}
	wantNet(t, gridOf(1), blocks, all(2), 0, 11)
}

func TestP151Accept(t *testing.T) {
	blocks := []api.Block{gives(0, 0, 1), gives(0, 0, 10), takes(0, 0, 100)}
	for _, c := range []struct {
		accept []bool
		net    int
	}{
		{nil, 0},
		{[]bool{}, 0},
		{[]bool{true}, 1},
		{[]bool{false}, 0},
		{[]bool{false, true}, 10},
		{[]bool{true, true}, 11},
		{[]bool{true, false, true}, -99},
		{[]bool{true, true, true}, -89},
		{[]bool{true, true, true, true}, -89},
		{[]bool{false, false, false, true, true}, 0},
		{append([]bool{false, true, false}, all(1000)...), 10},
	} {
		wantNet(t, gridOf(1), blocks, c.accept, 0, c.net)
		wantNet(t, gridOf(1), nil, c.accept, 0, 0)
		// Nor does what stands behind its end.
		wantNet(t, gridOf(1), blocks, append(slices.Clone(c.accept), all(3)...)[:len(c.accept)], 0, c.net)
	}
}

func TestP151OtherZones(t *testing.T) {
	for _, other := range []int{-1 << 63, -4, -3, -2, -1, 3, 4, 1000, 1<<63 - 1} {
		wantNet(t, gridOf(3), []api.Block{gives(other, 0, 5), takes(other, 0, 6)}, all(2), 0, 0, 0, 0)
		wantNet(t, gridOf(3), []api.Block{gives(other, 0, 5), gives(2, 0, 4), takes(other, 0, 6)}, all(3), 0, 0, 0, 4)
	}
	for zones := 1; zones <= 3; zones++ {
		net := make([]int, zones)
		wantNet(t, gridOf(zones), []api.Block{gives(zones, 0, 5), takes(-1, 0, 5)}, all(2), 0, net...)
		net[zones-1] = 5
		wantNet(t, gridOf(zones), []api.Block{gives(zones-1, 0, 5)}, all(1), 0, net...)
	}
}

func TestP151Hours(t *testing.T) {
	blocks := []api.Block{gives(0, 0, 1, 10, 100), takes(0, 0, 1000, 10000), gives(0, 0), takes(0, 0, 100000)}
	for hour, net := range map[int]int{
		0: 1 - 1000 - 100000, 1: 10 - 10000, 2: 100, 3: 0, 4: 0, 1000: 0, 1<<63 - 1: 0, -1: 0, -2: 0, -3: 0, -4: 0, -1 << 63: 0,
	} {
		// The grid has two hours: Qty tells alone.
		wantNet(t, gridOf(1), blocks, all(4), hour, net)
	}
	wantNet(t, gridOf(2), []api.Block{gives(1, 0, 0, 5)}, all(1), 0, 0, 0)
	wantNet(t, gridOf(2), []api.Block{gives(1, 0, 0, 5)}, all(1), 1, 0, 5)
	wantNet(t, gridOf(2), []api.Block{{Zone: 1}}, all(1), 0, 0, 0)
}

func TestP151Limits(t *testing.T) {
	wantNet(t, gridOf(1), []api.Block{gives(0, 100000, 100000)}, all(1), 0, 100000)
	wantNet(t, gridOf(1), []api.Block{takes(0, -100000, 100000)}, all(1), 0, -100000)
	// One that gives less than nothing takes.
	wantNet(t, gridOf(1), []api.Block{gives(0, 0, -100000)}, all(1), 0, -100000)
	wantNet(t, gridOf(1), []api.Block{takes(0, 0, -100000)}, all(1), 0, 100000)
	wantNet(t, gridOf(2), slices.Repeat([]api.Block{gives(1, 0, 100000)}, 3000), all(3000), 0, 0, 300000000)
	wantNet(t, gridOf(2), slices.Repeat([]api.Block{takes(0, 0, 100000)}, 3000), all(3000), 0, -300000000, 0)
}

func TestP151RefusedGridsEnd(t *testing.T) {
	blocks := []api.Block{gives(0, 0, 5), takes(1, 0, 6), takes(-1, 0, 6), gives(1<<62, 0, 7)}
	for _, g := range refused() {
		for _, hour := range []int{-1, 0, 1} {
			market.Net(g, blocks, all(4), hour)
			market.Build(g, example(), hour, []int{0})
			market.Build(g, example(), hour, []int{0, 0, 0, 0})
		}
	}
}

func TestP154Examples(t *testing.T) {
	blocks := []api.Block{takes(0, 30, 4), gives(0, 5, 1)}
	wantWelfare(t, example(), "6 6", nil, nil, "180")
	wantWelfare(t, example(), "6 6", blocks, []bool{true, false}, "300")
	wantWelfare(t, example(), "6 6", blocks, []bool{true, true}, "295")
	wantWelfare(t, example(), "6 6", blocks, []bool{false, true}, "175")
}

func TestP154Steps(t *testing.T) {
	wantWelfare(t, nil, "", nil, nil, "0")
	wantWelfare(t, example(), "0 0", nil, nil, "0")
	wantWelfare(t, example(), "1 0", nil, nil, "-20")
	wantWelfare(t, example(), "0 1", nil, nil, "50")
	wantWelfare(t, example(), "10 6", nil, nil, "100")
	// What may be taken at most tells nothing here.
	wantWelfare(t, example(), "11 7", nil, nil, "130")
	wantWelfare(t, example(), "-1 -2", nil, nil, "-80")
	// All hours and all zones count, and Prices below 0.
	steps := []api.Step{inHour(2, sells(1, 5, -7)), inHour(-3, buys(9, 5, -11)), inHour(1, buys(-2, 5, 100)), sells(0, 5, 0)}
	wantWelfare(t, steps, "1 0 0 0", nil, nil, "7")
	wantWelfare(t, steps, "0 1 0 0", nil, nil, "-11")
	wantWelfare(t, steps, "0 0 1 0", nil, nil, "100")
	wantWelfare(t, steps, "0 0 0 1", nil, nil, "0")
	wantWelfare(t, steps, "1 2 3 4", nil, nil, "285")
	// Whether the Qty is 0 neither.
	wantWelfare(t, []api.Step{buys(0, 0, 3)}, "2", nil, nil, "6")
}

func TestP154Fractions(t *testing.T) {
	wantWelfare(t, example(), "1/2 1/3", nil, nil, "20/3")
	wantWelfare(t, example(), "1/20 1/50", nil, nil, "0")
	wantWelfare(t, example(), "-1/20 1/50", nil, nil, "2")
	wantWelfare(t, example(), "1/3 2/15", nil, nil, "0")
	wantWelfare(t, example(), "1/7 0", nil, nil, "-20/7")
	wantWelfare(t, []api.Step{buys(0, 5, 1), buys(0, 5, 1), buys(0, 5, 1)}, "1/2 1/3 1/6", nil, nil, "1")
	wantWelfare(t, []api.Step{buys(0, 5, 1), buys(0, 5, 1), sells(0, 5, 1)}, "1/2 1/3 1/7", nil, nil, "29/42")
	wantWelfare(t, example(), "1/2 1/3", []api.Block{takes(0, 30, 4)}, all(1), "380/3")
	wantWelfare(t, []api.Step{buys(0, 5, 100000)}, "10000000000000000000000000000001/3", nil, nil, "1000000000000000000000000000000100000/3")
	wantWelfare(t, []api.Step{sells(0, 5, -100000)}, "1/10000000000000000000000000000000", nil, nil, "1/100000000000000000000000000")
}

func TestP154XOfAnotherLength(t *testing.T) {
	blocks := []api.Block{takes(0, 30, 4)}
	for many := range 5 {
		steps := slices.Repeat([]api.Step{buys(0, 6, 50)}, many)
		for n := range 8 {
			welfare := ""
			if n == many {
				welfare = []string{"120", "220", "320", "420", "520"}[n]
			}
			wantWelfare(t, steps, strings.Repeat("2 ", n), blocks, all(1), welfare)
		}
	}
	wantWelfare(t, nil, "0", nil, nil, "")
	wantWelfare(t, nil, "x", nil, nil, "")
	wantWelfare(t, example(), "", nil, nil, "")
	// Nor does what stands behind its end make up for it.
	if got := market.Welfare(example(), words("6 6 6")[:1], nil, nil); got != "" {
		t.Errorf("of an x too short: %q", got)
	}
}

func TestP154XThatIsNoNumber(t *testing.T) {
	steps := []api.Step{sells(0, 5, 3), buys(0, 5, 0), buys(0, 0, 4)}
	for _, bad := range []string{
		"", " ", "x", "-", "/", "+1", "-0", "00", "01", "-01", " 1", "1 ", "1.0", "1e3", "--1", "1/", "/2", "1/0", "0/1", "0/5",
		"2/4", "3/1", "1/-2", "-1/-2", "1/02", "1/2/3", "1,2", "0x1", "1_0", "١", "\xff", "1\x00",
	} {
		for i := range 3 {
			x := words("1 2 3")
			x[i] = bad
			if got := market.Welfare(steps, x, []api.Block{takes(0, 1, 1)}, all(1)); got != "" {
				t.Errorf("Welfare of %q: %q", x, got)
			}
		}
	}
	wantWelfare(t, steps, "1 2 3", nil, nil, "9")
}

func TestP154Blocks(t *testing.T) {
	// All hours, all zones.
	blocks := []api.Block{takes(0, 30, 4, 0, 7), gives(1, -5, 1, 2), takes(7, 2, 3), gives(-1, 9, 10, 10, 10, 10), takes(0, 5)}
	for _, c := range []struct {
		accept  []bool
		welfare string
	}{
		{nil, "0"},
		{[]bool{false, false, false, false, false}, "0"},
		{[]bool{true}, "330"},
		{[]bool{false, true}, "15"},
		{[]bool{false, false, true}, "6"},
		{[]bool{false, false, false, true}, "-360"},
		{[]bool{false, false, false, false, true}, "0"},
		{[]bool{true, true, true, true, true}, "-9"},
		{[]bool{true, true, true, true}, "-9"},
		{append([]bool{true, true, true, false, true}, all(1000)...), "351"},
		{[]bool{false, false, false, false, false, true, true}, "0"},
	} {
		wantWelfare(t, nil, "", blocks, c.accept, c.welfare)
		wantWelfare(t, nil, "", blocks, append(slices.Clone(c.accept), all(5)...)[:len(c.accept)], c.welfare)
	}
	wantWelfare(t, nil, "", nil, all(4), "0")
	wantWelfare(t, nil, "", []api.Block{{Buy: true, Price: 7, Qty: []int{3}, Parent: 8, Group: 1}, {Buy: true, Price: 7, Qty: []int{3}, Group: 1}}, all(2), "42")
}

func TestP154Limits(t *testing.T) {
	wantWelfare(t, nil, "", []api.Block{takes(0, 100000, 100000, 100000, 100000)}, all(1), "30000000000")
	wantWelfare(t, nil, "", []api.Block{gives(0, 100000, 100000, 100000, 100000)}, all(1), "-30000000000")
	wantWelfare(t, nil, "", []api.Block{gives(0, -100000, 100000)}, all(1), "10000000000")
	wantWelfare(t, nil, "", []api.Block{takes(0, -100000, -100000)}, all(1), "10000000000")
	wantWelfare(t, nil, "", []api.Block{takes(0, 100000, -100000)}, all(1), "-10000000000")
	wantWelfare(t, nil, "", slices.Repeat([]api.Block{takes(0, 100000, slices.Repeat([]int{100000}, 1000)...)}, 1000), all(1000), "10000000000000000")
	wantWelfare(t, []api.Step{buys(0, 1000, 100000), sells(0, 1000, -100000), sells(0, 1000, 100000), buys(0, 1000, -100000)}, "1000 1000 1 1", nil, nil, "199800000")
	steps := slices.Repeat([]api.Step{buys(0, 1000, 100000)}, 1000)
	wantWelfare(t, steps, strings.Repeat("100000 ", 1000), nil, nil, "10000000000000")
}
