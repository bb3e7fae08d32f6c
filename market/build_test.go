package market_test

import (
	"reflect"
	"slices"
	"testing"

	"noonbell/api"
	"noonbell/cert"
	"noonbell/market"
)

// row is one of a problem.
type row struct {
	left       []int
	rel, right int
}

// upTo and same are rows of at most, and of the same.
func upTo(right int, left ...int) row { return row{left, -1, right} }

func same(right int, left ...int) row { return row{left, 0, right} }

// wantBuild holds that the problem has this C and these rows, of a Rel with
// their sign.
func wantBuild(t *testing.T, g api.Grid, steps []api.Step, hour int, net []int, c []int, rows ...row) {
	t.Helper()
	for range 2 {
		p := market.Build(g, steps, hour, net)
		if cert.Check(p) == api.ErrShape {
			t.Fatalf("Build of %+v, %+v: %+v", g, steps, p)
		}
		var got []row
		for i, left := range p.Rows {
			got = append(got, row{append([]int(nil), left...), max(-1, min(1, p.Rel[i])), p.B[i]})
		}
		if !slices.Equal(p.C, c) || !reflect.DeepEqual(got, rows) {
			t.Errorf("Build of %+v, %+v, hour %d, net %v: %+v; not C %v, rows %+v", g, steps, hour, net, p, c, rows)
		}
	}
}

func TestP152Examples(t *testing.T) {
	for _, net := range []int{0, -5, -11, 7} {
		wantBuild(t, gridOf(1), example(), 0, []int{net}, []int{-20, 50},
			upTo(10, 1, 0),
			upTo(6, 0, 1),
			same(-net, 1, -1))
	}
}

func TestP152StepsAndLines(t *testing.T) {
	// A line's variable is its flow and 5: so what is known stands right.
	steps := []api.Step{sells(0, 10, 20), buys(1, 6, 50)}
	wantBuild(t, gridOf(2, line(0, 1, 5)), steps, 0, []int{3, -4}, []int{-20, 50, 0},
		upTo(10, 1, 0, 0),
		upTo(6, 0, 1, 0),
		upTo(10, 0, 0, 1),
		same(-3-5, 1, 0, -1),
		same(4+5, 0, -1, 1))
	wantBuild(t, gridOf(2, line(1, 0, 5)), steps, 0, []int{3, -4}, []int{-20, 50, 0},
		upTo(10, 1, 0, 0),
		upTo(6, 0, 1, 0),
		upTo(10, 0, 0, 1),
		same(-3+5, 1, 0, 1),
		same(4-5, 0, -1, -1))
}

func TestP152Order(t *testing.T) {
	// Steps in their order, whatever their zones, sides, names and prices; lines
	// in theirs; zones from 0 on.
	steps := []api.Step{buys(2, 1, 5), sells(0, 2, -6), buys(1, 3, -7), sells(2, 4, 8), sells(1, 5, 0), buys(0, 6, 9)}
	steps[0].Who, steps[0].Seq = "z", 9
	g := gridOf(3, line(2, 1, 100), line(0, 2, 10), line(1, 0, 1))
	wantBuild(t, g, steps, 0, []int{1000, 2000, 3000}, []int{5, 6, -7, -8, 0, 9, 0, 0, 0},
		upTo(1, 1, 0, 0, 0, 0, 0, 0, 0, 0),
		upTo(2, 0, 1, 0, 0, 0, 0, 0, 0, 0),
		upTo(3, 0, 0, 1, 0, 0, 0, 0, 0, 0),
		upTo(4, 0, 0, 0, 1, 0, 0, 0, 0, 0),
		upTo(5, 0, 0, 0, 0, 1, 0, 0, 0, 0),
		upTo(6, 0, 0, 0, 0, 0, 1, 0, 0, 0),
		upTo(200, 0, 0, 0, 0, 0, 0, 1, 0, 0),
		upTo(20, 0, 0, 0, 0, 0, 0, 0, 1, 0),
		upTo(2, 0, 0, 0, 0, 0, 0, 0, 0, 1),
		same(-1000-10+1, 0, 1, 0, 0, 0, -1, 0, -1, 1),
		same(-2000+100-1, 0, 0, -1, 0, 1, 0, 1, 0, -1),
		same(-3000-100+10, -1, 0, 0, 1, 0, 0, -1, 1, 0))
}

func TestP152LinesBetweenTheSameTwo(t *testing.T) {
	wantBuild(t, gridOf(2, line(0, 1, 1), line(1, 0, 20), line(0, 1, 300)), nil, 0, []int{0, 0}, []int{0, 0, 0},
		upTo(2, 1, 0, 0),
		upTo(40, 0, 1, 0),
		upTo(600, 0, 0, 1),
		same(-1+20-300, -1, 1, -1),
		same(1-20+300, 1, -1, 1))
	// One of no Cap, and one of the greatest.
	wantBuild(t, gridOf(3, line(1, 2, 0), line(2, 1, 1000)), nil, 1, []int{0, 5, 0}, []int{0, 0},
		upTo(0, 1, 0),
		upTo(2000, 0, 1),
		same(0, 0, 0),
		same(-5+1000, -1, 1),
		same(-1000, 1, -1))
}

func TestP152OtherHoursAndZones(t *testing.T) {
	var steps []api.Step
	for _, zone := range []int{-1 << 63, -2, -1, 0, 1, 2, 3, 4, 1<<63 - 1} {
		for _, hour := range []int{-1 << 63, -1, 0, 1, 2, 3, 1<<63 - 1} {
			steps = append(steps, inHour(hour, sells(zone, 10*(zone&7)+hour&7, 7)))
		}
	}
	for _, hour := range []int{-1 << 63, -1, 0, 1, 2, 3, 1<<63 - 1} {
		// Also an hour that the grid has not: its steps are of that hour.
		wantBuild(t, gridOf(2), steps, hour, []int{0, 0}, []int{-7, -7},
			upTo(0+hour&7, 1, 0),
			upTo(10+hour&7, 0, 1),
			same(0, 1, 0),
			same(0, 0, 1))
	}
	wantBuild(t, gridOf(1), steps, 4, []int{8}, nil, same(-8))
	// Of zone 2, where there are three.
	wantBuild(t, gridOf(3), []api.Step{sells(3, 1, 1), buys(2, 4, 2), sells(-1, 1, 1), inHour(1, buys(2, 1, 1))}, 0, []int{0, 0, 0}, []int{2},
		upTo(4, 1), same(0, 0), same(0, 0), same(0, -1))
}

func TestP152Nothing(t *testing.T) {
	// No steps and no lines at all: of each zone a row without numbers.
	wantBuild(t, gridOf(1), nil, 0, []int{0}, nil, same(0))
	wantBuild(t, gridOf(3), nil, 0, []int{1, -2, 0}, nil, same(-1), same(2), same(0))
	// A zone without steps.
	wantBuild(t, gridOf(2), []api.Step{buys(0, 5, 9)}, 0, []int{0, 6}, []int{9}, upTo(5, 1), same(0, -1), same(-6, 0))
}

func TestP152Limits(t *testing.T) {
	wantBuild(t, gridOf(1), []api.Step{sells(0, 1000, 100000), sells(0, 0, -100000), buys(0, 1000, 100000), buys(0, 1, -100000)}, 0, []int{-100000},
		[]int{-100000, 100000, 100000, -100000},
		upTo(1000, 1, 0, 0, 0),
		upTo(0, 0, 1, 0, 0),
		upTo(1000, 0, 0, 1, 0),
		upTo(1, 0, 0, 0, 1),
		same(100000, 1, 1, -1, -1))
	// What no order may be is laid down all the same.
	const great = 1 << 40
	wantBuild(t, gridOf(1), []api.Step{sells(0, -3, great), buys(0, great, -great)}, 0, []int{-great}, []int{-great, -great},
		upTo(-3, 1, 0), upTo(great, 0, 1), same(great, 1, -1))
}

func TestP152NetOfAnotherLengthEnds(t *testing.T) {
	for zones := 1; zones <= 3; zones++ {
		for n := range 6 {
			market.Build(gridOf(zones), example(), 0, make([]int, n))
			market.Build(gridOf(zones), nil, 0, make([]int, n))
		}
	}
}
