package market_test

import (
	"reflect"
	"slices"
	"strings"
	"testing"
	"time"

	"noonbell/api"
	"noonbell/lp"
	"noonbell/market"
)

const billion = 1000000000

// wantHour holds that this is what the hour comes to: X, F, P, Welfare.
func wantHour(t *testing.T, g api.Grid, steps []api.Step, net []int, x, f, p, welfare string) {
	t.Helper()
	h := solved(t, g, steps, 0, net)
	told := []string{strings.Join(h.X, " "), strings.Join(h.F, " "), strings.Join(h.P, " "), h.Welfare}
	if !h.OK || !slices.Equal(told, []string{x, f, p, welfare}) {
		t.Errorf("%+v, %+v, net %v: %+v, not %s; %s; %s; %s", g, steps, net, h, x, f, p, welfare)
	}
}

// wantBest holds that this is the hour's welfare, with whatever X, F, P.
func wantBest(t *testing.T, g api.Grid, steps []api.Step, net []int, welfare string) market.Hour {
	t.Helper()
	h := solved(t, g, steps, 0, net)
	if !h.OK || h.Welfare != welfare {
		t.Errorf("%+v, %+v, net %v: %+v, not %s", g, steps, net, h, welfare)
	}
	return h
}

func wantNone(t *testing.T, g api.Grid, steps []api.Step, net ...int) {
	t.Helper()
	if h := solved(t, g, steps, 0, net); h.OK {
		t.Errorf("%+v, %+v, net %v: %+v", g, steps, net, h)
	}
}

// wantError holds that this is told, and nothing else beside an error.
func wantError(t *testing.T, g api.Grid, steps []api.Step, net []int, want api.Errno) {
	t.Helper()
	h, e := market.Solve(g, steps, 0, net)
	if e != want {
		t.Errorf("%+v, %d steps, net %v: error %d, not %d", g, len(steps), net, e, want)
	}
	if e != api.OK && !isNothing(h) {
		t.Errorf("beside the error %d: %+v", e, h)
	}
}

func isNothing(h market.Hour) bool {
	return !h.OK && len(h.X)+len(h.F)+len(h.P) == 0 && h.Welfare == ""
}

func TestP153Examples(t *testing.T) {
	g := gridOf(1)
	wantHour(t, g, example(), []int{0}, "6 6", "", "20", "180")
	wantHour(t, g, example(), []int{-5}, "10 5", "", "50", "50")
	wantNone(t, g, example(), -11)
	wantBest(t, g, example(), []int{-4}, "100")
	wantBest(t, g, example(), []int{-10}, "-200")
	wantHour(t, g, example(), []int{2}, "4 6", "", "20", "220")
	wantBest(t, g, example(), []int{6}, "300")
	wantNone(t, g, example(), 7)
}

func TestP153TheDocumentsLine(t *testing.T) {
	steps := []api.Step{sells(0, 10, 20), buys(1, 6, 50)}
	wantHour(t, gridOf(2, line(0, 1, 5)), steps, []int{0, 0}, "5 5", "5", "20 50", "150")
	wantHour(t, gridOf(2, line(1, 0, 5)), steps, []int{0, 0}, "5 5", "-5", "20 50", "150")
}

func TestP153OneZone(t *testing.T) {
	g := gridOf(1)
	// The dearest that is needed makes the price.
	steps := []api.Step{sells(0, 3, 10), buys(0, 4, 90), sells(0, 3, 30), buys(0, 4, 40), sells(0, 3, 50)}
	wantHour(t, g, steps, []int{0}, "3 4 3 2 0", "", "40", "320")
	wantHour(t, g, steps, []int{3}, "3 4 2 4 0", "", "30", "430")
	// Nobody meets.
	h := wantBest(t, g, []api.Step{sells(0, 3, 50), buys(0, 3, 40)}, []int{0}, "0")
	if !slices.Equal(h.X, words("0 0")) {
		t.Errorf("%+v", h)
	}
	// Steps of nothing, and steps alone.
	wantBest(t, g, []api.Step{sells(0, 0, 10), buys(0, 0, 90)}, []int{0}, "0")
	wantBest(t, g, []api.Step{sells(0, 7, 10)}, []int{0}, "0")
	wantBest(t, g, []api.Step{sells(0, 7, -10)}, []int{0}, "0")
	wantHour(t, g, []api.Step{buys(0, 7, 10)}, []int{3}, "3", "", "10", "30")
	wantHour(t, g, []api.Step{sells(0, 7, 10)}, []int{-3}, "3", "", "10", "-30")
}

func TestP153PricesBelowNought(t *testing.T) {
	g := gridOf(1)
	wantHour(t, g, []api.Step{sells(0, 10, -30), buys(0, 6, -10)}, []int{0}, "6 6", "", "-30", "120")
	wantHour(t, g, []api.Step{sells(0, 6, -30), buys(0, 10, -10)}, []int{0}, "6 6", "", "-10", "120")
	wantHour(t, g, []api.Step{sells(0, 10, -30), buys(0, 6, 10)}, []int{0}, "6 6", "", "-30", "240")
	wantHour(t, g, []api.Step{buys(0, 10, -7)}, []int{4}, "4", "", "-7", "-28")
	wantHour(t, g, []api.Step{sells(0, 1000, -100000), buys(0, 999, 100000)}, []int{0}, "999 999", "", "-100000", "199800000")
	wantHour(t, g, []api.Step{sells(0, 999, -100000), buys(0, 1000, 100000)}, []int{0}, "999 999", "", "100000", "199800000")
	// Both sides of a full line.
	wantHour(t, gridOf(2, line(1, 0, 2)), []api.Step{sells(1, 10, -40), buys(0, 6, -10)}, []int{0, 0}, "2 2", "2", "-10 -40", "60")
}

func TestP153AtOnePrice(t *testing.T) {
	for _, price := range []int{-30, 0, 30} {
		h := wantBest(t, gridOf(1), []api.Step{sells(0, 10, price), buys(0, 6, price)}, []int{0}, "0")
		if want := []string{bigOf(price).RatString()}; !slices.Equal(h.P, want) {
			t.Errorf("two at %d: %+v", price, h)
		}
		wantBest(t, gridOf(1), []api.Step{sells(0, 6, price), buys(0, 6, price), sells(0, 6, price), buys(0, 6, price)}, []int{0}, "0")
		// With something else beside them.
		steps := []api.Step{sells(0, 10, price), sells(0, 10, price), buys(0, 6, price), buys(0, 3, price+1)}
		h = wantBest(t, gridOf(1), steps, []int{0}, "3")
		if want := []string{bigOf(price).RatString()}; !slices.Equal(h.P, want) {
			t.Errorf("four at %d: %+v", price, h)
		}
	}
}

func TestP153LineThatIsNotFull(t *testing.T) {
	steps := []api.Step{sells(0, 10, 20), buys(1, 6, 50)}
	for _, l := range []api.Line{line(0, 1, 7), line(0, 1, 1000)} {
		wantHour(t, gridOf(2, l), steps, []int{0, 0}, "6 6", "6", "20 20", "180")
		wantHour(t, gridOf(2, line(l.To, l.From, l.Cap)), steps, []int{0, 0}, "6 6", "-6", "20 20", "180")
	}
	// Just full, and nothing more to carry.
	wantBest(t, gridOf(2, line(0, 1, 6)), steps, []int{0, 0}, "180")
	// Blocks alone make it flow.
	wantHour(t, gridOf(2, line(0, 1, 5)), []api.Step{sells(0, 9, 7), buys(0, 1, 8)}, []int{3, -4}, "2 1", "4", "7 7", "-6")
}

func TestP153LineThatIsFull(t *testing.T) {
	// A zone that gives and one that takes, on either side of it.
	steps := []api.Step{sells(0, 10, 20), buys(0, 1, 30), sells(1, 9, 45), buys(1, 6, 50)}
	wantHour(t, gridOf(2, line(0, 1, 4)), steps, []int{0, 0}, "5 1 2 6", "4", "20 45", "140")
	wantHour(t, gridOf(2, line(1, 0, 4)), steps, []int{0, 0}, "5 1 2 6", "-4", "20 45", "140")
	// By a zone between them, of which one line is full.
	g := gridOf(3, line(0, 1, 8), line(1, 2, 3))
	wantHour(t, g, []api.Step{sells(0, 10, 20), buys(2, 6, 50)}, []int{0, 0, 0}, "3 3", "3 3", "20 20 50", "90")
	g = gridOf(3, line(1, 0, 3), line(2, 1, 8))
	wantHour(t, g, []api.Step{sells(0, 10, 20), buys(2, 6, 50)}, []int{0, 0, 0}, "3 3", "-3 -3", "20 50 50", "90")
}

func TestP153LinesOfCapNought(t *testing.T) {
	cheap := []api.Step{sells(0, 10, 20), buys(0, 3, 30), sells(1, 5, 10), buys(1, 8, 40)}
	for _, l := range []api.Line{line(0, 1, 0), line(1, 0, 0)} {
		wantHour(t, gridOf(2, l), cheap, []int{0, 0}, "3 3 5 5", "0", "20 40", "180")
	}
	// The other zone is the dearer one.
	dear := []api.Step{sells(1, 10, 20), buys(1, 3, 30), sells(0, 5, 10), buys(0, 8, 40)}
	for _, l := range []api.Line{line(0, 1, 0), line(1, 0, 0)} {
		wantHour(t, gridOf(2, l), dear, []int{0, 0}, "3 3 5 5", "0", "40 20", "180")
	}
	wantHour(t, gridOf(2), dear, []int{0, 0}, "3 3 5 5", "", "40 20", "180")
	wantNone(t, gridOf(2, line(0, 1, 0)), nil, 1, -1)
}

func TestP153SeveralLinesBetweenTheSameTwo(t *testing.T) {
	steps := []api.Step{sells(0, 10, 20), buys(1, 9, 50)}
	wantHour(t, gridOf(2, line(0, 1, 2), line(0, 1, 3)), steps, []int{0, 0}, "5 5", "2 3", "20 50", "150")
	wantHour(t, gridOf(2, line(0, 1, 2), line(1, 0, 3), line(1, 0, 0)), steps, []int{0, 0}, "5 5", "2 -3 0", "20 50", "150")
	h := wantBest(t, gridOf(2, line(1, 0, 8), line(0, 1, 7), line(1, 0, 9)), steps, []int{0, 0}, "270")
	if !slices.Equal(h.P, words("20 20")) {
		t.Errorf("%+v", h)
	}
	// A ring.
	ring := gridOf(3, line(0, 1, 2), line(1, 2, 9), line(2, 0, 3))
	wantHour(t, ring, []api.Step{sells(0, 10, 20), buys(1, 9, 50)}, []int{0, 0, 0}, "5 5", "2 -3 -3", "20 50 50", "150")
}

func TestP153Infeasible(t *testing.T) {
	wantNone(t, gridOf(1), nil, 1)
	wantNone(t, gridOf(1), nil, -1)
	wantNone(t, gridOf(2), []api.Step{sells(0, 5, 1), buys(0, 5, 2)}, 0, 1)
	wantNone(t, gridOf(2), []api.Step{sells(0, 5, 1), buys(0, 5, 2)}, 0, -1)
	wantNone(t, gridOf(2), nil, 1, -1)
	// What the line can't carry, either way.
	wantNone(t, gridOf(2, line(0, 1, 4)), nil, 5, -5)
	wantNone(t, gridOf(2, line(0, 1, 4)), nil, -5, 5)
	wantNone(t, gridOf(2, line(0, 1, 4)), nil, 3, -4)
	wantNone(t, gridOf(3, line(0, 1, 4), line(1, 2, 3)), nil, 4, 0, -4)
	// A step of less than nothing.
	wantNone(t, gridOf(1), []api.Step{buys(0, -1, 5)}, -1)
	wantNone(t, gridOf(1), append(example(), sells(0, -1, 5)), 0)
	// The same, feasible.
	wantBest(t, gridOf(2, line(0, 1, 5)), nil, []int{5, -5}, "0")
	wantBest(t, gridOf(2, line(0, 1, 5)), nil, []int{-5, 5}, "0")
	wantBest(t, gridOf(3, line(0, 1, 4), line(1, 2, 4)), nil, []int{4, 0, -4}, "0")
}

func TestP153OtherHoursAndZones(t *testing.T) {
	// They neither count, nor have an X.
	steps := []api.Step{
		inHour(1, sells(0, 9, 1)), sells(0, 10, 20), sells(1, 9, 1), buys(-1, 9, 99), buys(0, 6, 50), inHour(-1, buys(0, 9, 99)), inHour(1, buys(0, 2, 7)),
	}
	wantHour(t, gridOf(1), steps, []int{0}, "6 6", "", "20", "180")
	h := solved(t, gridOf(1), steps, 1, []int{0})
	if !reflect.DeepEqual(h.X, words("2 2")) || h.Welfare != "12" || !slices.Equal(h.P, words("1")) {
		t.Errorf("hour 1: %+v", h)
	}
	for _, hour := range []int{-1 << 63, -2, 2, 7, 1<<63 - 1} {
		if h := solved(t, gridOf(1), steps, hour, []int{0}); !h.OK || len(h.X) > 0 || h.Welfare != "0" || len(h.P) != 1 {
			t.Errorf("hour %d: %+v", hour, h)
		}
	}
}

func TestP153Nothing(t *testing.T) {
	for zones := 1; zones <= 3; zones++ {
		h := wantBest(t, gridOf(zones), nil, make([]int, zones), "0")
		if len(h.X) > 0 || len(h.F) > 0 || len(h.P) != zones {
			t.Errorf("%+v", h)
		}
	}
	// A zone without steps, alone and at a line.
	steps := []api.Step{sells(0, 10, 20), buys(0, 6, 50)}
	h := wantBest(t, gridOf(2), steps, []int{0, 0}, "180")
	if len(h.P) != 2 || h.P[0] != "20" {
		t.Errorf("%+v", h)
	}
	h = wantBest(t, gridOf(2, line(1, 0, 3)), steps, []int{0, 0}, "180")
	if !slices.Equal(h.P, words("20 20")) || !slices.Equal(h.F, words("0")) {
		t.Errorf("%+v", h)
	}
	wantBest(t, gridOf(3, line(1, 0, 3), line(1, 2, 0)), nil, []int{0, 0, 0}, "0")
}

func TestP153Grid(t *testing.T) {
	for _, g := range refused() {
		// Whatever else is wrong.
		for n := range 5 {
			wantError(t, g, example(), make([]int, n), api.ErrGrid)
			wantError(t, g, slices.Repeat(example(), 40), make([]int, n), api.ErrGrid)
			wantError(t, g, nil, slices.Repeat([]int{billion + 1}, n), api.ErrGrid)
		}
	}
}

func TestP153Shape(t *testing.T) {
	for zones := 1; zones <= 3; zones++ {
		for _, n := range []int{0, 1, 2, 3, 4, 5, 1000} {
			want := api.ErrShape
			if n == zones {
				want = api.OK
			}
			wantError(t, gridOf(zones), example(), make([]int, n), want)
			if n != zones {
				// Ahead of what is too much.
				wantError(t, gridOf(zones), slices.Repeat(example(), 40), make([]int, n), want)
				wantError(t, gridOf(zones), nil, slices.Repeat([]int{billion + 1}, n), want)
			}
		}
	}
	wantError(t, gridOf(1), example(), nil, api.ErrShape)
}

func TestP153Many(t *testing.T) {
	lines := []api.Line{line(0, 1, 5), line(1, 2, 6), line(2, 0, 7)}
	for zones := 1; zones <= 3; zones++ {
		for n := range 4 {
			if zones == 1 && n > 0 {
				continue
			}
			some := slices.Clone(lines[:n])
			for i := range some {
				some[i].From, some[i].To = some[i].From%zones, some[i].To%zones
				if some[i].From == some[i].To {
					some[i].From, some[i].To = 1, 0
				}
			}
			g := gridOf(zones, some...)
			most := 60 - zones - n
			steps := slices.Repeat([]api.Step{sells(0, 1, 1), buys(0, 1, 2)}, 40)
			wantError(t, g, steps[:most], make([]int, zones), api.OK)
			wantError(t, g, steps[:most+1], make([]int, zones), api.ErrMany)
			wantError(t, g, steps, make([]int, zones), api.ErrMany)
			// Those of other hours and zones are none too many.
			others := slices.Repeat([]api.Step{inHour(1, sells(0, 1, 1)), buys(zones, 1, 2), buys(-1, 1, 2)}, 40)
			wantError(t, g, append(others, steps[:most]...), make([]int, zones), api.OK)
			wantError(t, g, append(others, steps[:most+1]...), make([]int, zones), api.ErrMany)
		}
	}
	wantError(t, gridOf(1), slices.Repeat(example(), 500), []int{0}, api.ErrMany)
}

func TestP153TooGreat(t *testing.T) {
	for _, n := range []int{billion + 1, -billion - 1, 1 << 40, -1 << 40, 1<<63 - 1, -1 << 63} {
		wantError(t, gridOf(1), []api.Step{sells(0, n, 1)}, []int{0}, api.ErrMany)
		wantError(t, gridOf(1), []api.Step{buys(0, n, 1)}, []int{0}, api.ErrMany)
		wantError(t, gridOf(1), []api.Step{sells(0, 1, n)}, []int{0}, api.ErrMany)
		wantError(t, gridOf(1), []api.Step{buys(0, 1, n)}, []int{0}, api.ErrMany)
		wantError(t, gridOf(2), []api.Step{buys(0, 1, 1)}, []int{0, n}, api.ErrMany)
		// Of another hour, or another zone, it is not too great.
		wantError(t, gridOf(1), []api.Step{inHour(1, sells(0, n, n)), buys(1, n, n)}, []int{0}, api.OK)
	}
	wantHour(t, gridOf(1), []api.Step{sells(0, billion, -billion), buys(0, billion, billion), buys(0, 1, billion)}, []int{billion - 1},
		"2 1000000000 1", "", "-1000000000", "1000000003000000000")
	// It is what stands right that is too great, not net.
	wantError(t, gridOf(2, line(0, 1, 5)), nil, []int{-billion, 0}, api.OK)
	wantError(t, gridOf(2, line(1, 0, 5)), nil, []int{-billion, 0}, api.ErrMany)
	wantError(t, gridOf(2, line(0, 1, 5)), nil, []int{-billion - 5, 0}, api.OK)
	wantError(t, gridOf(2, line(0, 1, 5)), nil, []int{-billion - 6, 0}, api.ErrMany)
}

// What Solve says is what lp.Solve of Build does.
func TestP153AsTheProblem(t *testing.T) {
	for _, c := range hours() {
		h, e := market.Solve(c.g, c.steps, c.hour, c.net)
		s, told := lp.Solve(market.Build(c.g, c.steps, c.hour, c.net))
		if e != told || h.OK != (s.Kind == lp.Optimal) || h.Welfare != s.Value || s.Kind == lp.Unbounded {
			t.Errorf("%+v: %+v, error %d; of the problem %+v, error %d", c, h, e, s, told)
		}
	}
}

func TestP153InTime(t *testing.T) {
	r := draw(5)
	start := time.Now()
	for _, price := range []int{1, 5, 100000} {
		g := gridOf(3, line(0, 1, 300), line(1, 2, 20), line(2, 0, 1000))
		var steps []api.Step
		for range 54 {
			steps = append(steps, r.step(3, 1000, price))
		}
		solved(t, g, steps, 0, []int{r.IntN(300), -r.IntN(300), r.IntN(20)})
	}
	if took := time.Since(start); took > 30*time.Second {
		t.Errorf("it took %v", took)
	}
}
