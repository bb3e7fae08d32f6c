package grid_test

import (
	"math"
	"slices"
	"testing"

	"noonbell/api"
	"noonbell/grid"
)

// line is one from a zone to another one, of that Cap.
func line(from, to, capacity int) api.Line {
	return api.Line{From: from, To: to, Cap: capacity}
}

// gridOf is one of so many zones, one hour, prices from 0 to 10.
func gridOf(zones int, lines ...api.Line) api.Grid {
	return api.Grid{Zones: zones, Hours: 1, Lines: lines, High: 10}
}

// changed is an ordinary grid, but for what the function changes.
func changed(change func(g *api.Grid)) api.Grid {
	g := api.Grid{Zones: 3, Hours: 2, Low: -500, High: 3000, Lines: []api.Line{line(0, 1, 5), line(2, 1, 7)}}
	change(&g)
	return g
}

func wantCheck(t *testing.T, g api.Grid, e api.Errno) {
	t.Helper()
	for range 2 {
		if got := grid.Check(g); got != e {
			t.Errorf("Check of %+v: error %d, not %d", g, got, e)
		}
	}
}

func wantIslands(t *testing.T, g api.Grid, islands ...int) {
	t.Helper()
	for range 2 {
		if got := grid.Islands(g); !slices.Equal(got, islands) {
			t.Errorf("Islands of %+v: %v, not %v", g, got, islands)
		}
	}
}

// sameGrid tells whether two grids are the same, line by line.
func sameGrid(a, b api.Grid) bool {
	return a.Zones == b.Zones && a.Hours == b.Hours && a.Low == b.Low && a.High == b.High && slices.Equal(a.Lines, b.Lines)
}

// taken tells whether n is low to high.
func taken(low, n, high int) api.Errno {
	if n < low || n > high {
		return api.ErrGrid
	}
	return api.OK
}

func TestP141Ordinary(t *testing.T) {
	wantCheck(t, gridOf(1), api.OK)
	wantCheck(t, gridOf(3, line(2, 1, 5)), api.OK)
	wantCheck(t, changed(func(g *api.Grid) {}), api.OK)
	wantCheck(t, api.Grid{}, api.ErrGrid)
}

func TestP141ZonesAndHours(t *testing.T) {
	for _, n := range []int{math.MinInt, -1000, -3, -2, -1, 0, 1, 2, 3, 4, 5, 1000, math.MaxInt} {
		wantCheck(t, changed(func(g *api.Grid) { g.Zones, g.Lines = n, nil }), taken(1, n, 3))
		wantCheck(t, changed(func(g *api.Grid) { g.Hours = n }), taken(1, n, 3))
		wantCheck(t, changed(func(g *api.Grid) { g.Zones = n }), taken(3, n, 3))
	}
}

func TestP141HowManyLines(t *testing.T) {
	for n := range 20 {
		wantCheck(t, gridOf(2, slices.Repeat([]api.Line{line(0, 1, 5)}, n)...), taken(0, n, 3))
	}
	wantCheck(t, gridOf(3, line(0, 1, 1), line(1, 2, 1), line(2, 0, 1)), api.OK)
	wantCheck(t, gridOf(3, line(0, 1, 1), line(1, 2, 1), line(2, 0, 1), line(1, 0, 0)), api.ErrGrid)
	wantCheck(t, gridOf(2, slices.Repeat([]api.Line{line(0, 1, 5)}, 5000)...), api.ErrGrid)
}

// Each line's ends, at each place among others: from a zone that there is to
// another one.
func TestP141Ends(t *testing.T) {
	ends := []int{math.MinInt, -3, -2, -1, 0, 1, 2, 3, 4, 1000, math.MaxInt}
	for zones := 1; zones <= 3; zones++ {
		for _, from := range ends {
			for _, to := range ends {
				e := api.OK
				if from < 0 || from >= zones || to < 0 || to >= zones || from == to {
					e = api.ErrGrid
				}
				l := line(from, to, 5)
				wantCheck(t, gridOf(zones, l), e)
				if zones > 1 {
					good := line(1, 0, 5)
					wantCheck(t, gridOf(zones, l, good, good), e)
					wantCheck(t, gridOf(zones, good, l, good), e)
					wantCheck(t, gridOf(zones, good, good, l), e)
				}
			}
		}
	}
}

func TestP141Cap(t *testing.T) {
	for _, n := range []int{math.MinInt, -1001, -1000, -2, -1, 0, 1, 2, 500, 999, 1000, 1001, 1002, 100000, math.MaxInt} {
		for i := range 3 {
			lines := []api.Line{line(0, 1, 5), line(1, 0, 0), line(0, 1, 1000)}
			lines[i].Cap = n
			wantCheck(t, gridOf(2, lines...), taken(0, n, 1000))
		}
	}
}

func TestP141Prices(t *testing.T) {
	prices := []int{math.MinInt, -100002, -100001, -100000, -99999, -1, 0, 1, 99999, 100000, 100001, 100002, math.MaxInt}
	for _, low := range prices {
		for _, high := range prices {
			e := api.ErrGrid
			if -100000 <= low && low <= high && high <= 100000 {
				e = api.OK
			}
			wantCheck(t, changed(func(g *api.Grid) { g.Low, g.High = low, high }), e)
		}
	}
}

func TestP143Examples(t *testing.T) {
	wantIslands(t, gridOf(3, line(2, 1, 5)), 0, 1, 1)
}

func TestP143Islands(t *testing.T) {
	wantIslands(t, gridOf(1), 0)
	wantIslands(t, gridOf(2), 0, 1)
	wantIslands(t, gridOf(3), 0, 1, 2)
	wantIslands(t, gridOf(2, line(0, 1, 1)), 0, 0)
	wantIslands(t, gridOf(2, line(1, 0, 1)), 0, 0)
	wantIslands(t, gridOf(3, line(0, 1, 5)), 0, 0, 2)
	wantIslands(t, gridOf(3, line(0, 2, 5)), 0, 1, 0)
	wantIslands(t, gridOf(3, line(2, 0, 1000)), 0, 1, 0)
	wantIslands(t, gridOf(3, line(1, 2, 1)), 0, 1, 1)
}

func TestP143CapZero(t *testing.T) {
	wantIslands(t, gridOf(2, line(0, 1, 0)), 0, 1)
	wantIslands(t, gridOf(3, line(0, 1, 0), line(1, 2, 5)), 0, 1, 1)
	wantIslands(t, gridOf(3, line(0, 1, 5), line(1, 2, 0)), 0, 0, 2)
	wantIslands(t, gridOf(3, line(0, 1, 0), line(1, 2, 0), line(2, 0, 0)), 0, 1, 2)
	// One of several between the same two is enough.
	wantIslands(t, gridOf(2, line(0, 1, 0), line(0, 1, 1)), 0, 0)
	wantIslands(t, gridOf(2, line(0, 1, 1), line(1, 0, 0)), 0, 0)
	wantIslands(t, gridOf(2, line(1, 0, 0), line(0, 1, 0), line(1, 0, 1)), 0, 0)
}

// A zone is come to by way of others, in whatever order the lines stand.
func TestP143ChainsAndRings(t *testing.T) {
	for _, lines := range [][]api.Line{
		{line(0, 1, 1), line(1, 2, 1)},
		{line(1, 2, 1), line(0, 1, 1)},
		{line(2, 1, 1), line(1, 0, 1)},
		{line(2, 1, 1), line(2, 0, 1)},
		{line(0, 2, 1), line(1, 2, 1)},
		{line(0, 1, 1), line(1, 2, 1), line(2, 0, 1)},
		{line(2, 1, 1), line(1, 0, 1), line(0, 2, 1)},
		{line(1, 2, 1), line(2, 1, 1), line(0, 2, 1)},
	} {
		wantIslands(t, gridOf(3, lines...), 0, 0, 0)
	}
	wantIslands(t, gridOf(3, line(1, 2, 1), line(2, 1, 1), line(1, 2, 3)), 0, 1, 1)
}

// refused are grids that Check refuses: of them an end alone is promised.
func refused() []api.Grid {
	var l []api.Grid
	for _, n := range []int{math.MinInt, math.MinInt + 1, -1, 0, 4, 1000, math.MaxInt32, math.MaxInt - 1, math.MaxInt} {
		l = append(l,
			gridOf(n), gridOf(n, line(0, 1, 5)), gridOf(n, line(n, 0, 5)), gridOf(2, line(0, n, 5)), gridOf(2, line(n, n, n)),
			changed(func(g *api.Grid) { g.Hours = n }),
			changed(func(g *api.Grid) { g.Low, g.High = n, n-1 }),
		)
	}
	return append(l,
		gridOf(1, line(0, 0, 1)), gridOf(3, line(1, 1, 1), line(2, 2, 2)), gridOf(2, line(1, 0, -1)), gridOf(2, line(0, 1, 1001)),
		gridOf(2, slices.Repeat([]api.Line{line(0, 1, 5)}, 4000)...), gridOf(2, slices.Repeat([]api.Line{line(7, -1, 5)}, 4)...),
		api.Grid{Low: math.MaxInt, High: math.MinInt},
	)
}

func TestR1EveryCallEnds(t *testing.T) {
	for _, g := range refused() {
		wantCheck(t, g, api.ErrGrid)
		for _, f := range [][]string{nil, {""}, {"1"}, {"1", "-1/2"}, slices.Repeat([]string{"3/2"}, len(g.Lines)), slices.Repeat([]string{"x"}, len(g.Lines))} {
			if l, e := grid.Export(g, f); e != api.OK && len(l) > 0 {
				t.Errorf("Export of %+v: %v beside error %d", g, l, e)
			}
			grid.Within(g, f)
		}
		grid.Islands(g)
		wantForm(t, grid.Print(g))
	}
}

func TestR3IslandsAreNewMemory(t *testing.T) {
	g := gridOf(3, line(0, 1, 5))
	a, b := grid.Islands(g), grid.Islands(g)
	for i := range a {
		a[i] = 9
	}
	// What lies behind its length is the answer's own, too.
	for i := range a[:cap(a)] {
		a[:cap(a)][i] = 9
	}
	if !slices.Equal(b, []int{0, 0, 2}) {
		t.Errorf("an answer shares another one's memory: %v", b)
	}
	wantIslands(t, g, 0, 0, 2)
}

func TestR3WhatIsHandedInStays(t *testing.T) {
	behind := line(77, 88, 99)
	room := []api.Line{line(2, 1, 5), line(0, 1, 3), behind, behind}
	first := slices.Clone(room)
	g := gridOf(3, room[:2]...)
	spare := []string{"3/2", "-2", "behind"}
	f := spare[:2]
	grid.Check(g)
	grid.Islands(g)
	grid.Print(g)
	grid.Within(g, f)
	l, e := grid.Export(g, f)
	if e != api.OK || !slices.Equal(l, []string{"-2", "1/2", "3/2"}) {
		t.Errorf("Export: %v, error %d", l, e)
	}
	grid.Export(g, f[:1])
	grid.Export(g, []string{"1", "x"})
	if !slices.Equal(room, first) || !slices.Equal(spare, []string{"3/2", "-2", "behind"}) {
		t.Errorf("what was handed in is now %v and %v", room, spare)
	}
	for i := range l[:cap(l)] {
		l[:cap(l)][i] = "gone"
	}
	if !slices.Equal(room, first) || !slices.Equal(spare, []string{"3/2", "-2", "behind"}) {
		t.Errorf("an answer shares the memory of what was handed in: %v and %v", room, spare)
	}
}

// Nothing is kept from call to call.
func TestR5OneAnswer(t *testing.T) {
	g := gridOf(3, line(0, 1, 5))
	for range 3 {
		wantIslands(t, g, 0, 0, 2)
		wantExport(t, g, api.OK, []string{"4"}, "4", "-4", "0")
		g.Lines[0] = line(2, 1, 7)
		wantIslands(t, g, 0, 1, 1)
		wantExport(t, g, api.OK, []string{"4"}, "0", "-4", "4")
		wantText(t, g, "grid 3 1 0 10 2 1 7")
		g.Lines[0] = line(0, 1, 5)
		wantText(t, g, "grid 3 1 0 10 0 1 5")
		wantForm(t, "grid 3 1 0 10 0 1")
	}
}
