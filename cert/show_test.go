package cert_test

import (
	"fmt"
	"math"
	"reflect"
	"slices"
	"testing"

	"noonbell/api"
	"noonbell/cert"
)

// tiny is a fraction that no sum of floats would tell.
const tiny = "1/1000000000000000000000000000000"

// The sorts of Rel, by several numbers each.
var (
	atMost  = []int{-1, -2, -billion - 1, math.MinInt}
	theSame = []int{0}
	atLeast = []int{1, 2, billion + 1, math.MaxInt}
)

func wantBool(t *testing.T, what string, got, want bool, args ...any) {
	t.Helper()
	if got != want {
		t.Errorf("%s of %v: %v", what, fmt.Sprintf("%+v", args), got)
	}
}

func wantFeasible(t *testing.T, p cert.Problem, x []string, want bool) {
	t.Helper()
	wantBool(t, "Feasible", cert.Feasible(p, x), want, p, x)
}

func wantDual(t *testing.T, p cert.Problem, y []string, want bool) {
	t.Helper()
	wantBool(t, "Dual", cert.Dual(p, y), want, p, y)
}

func wantOptimal(t *testing.T, p cert.Problem, x, y []string, want bool) {
	t.Helper()
	wantBool(t, "Optimal", cert.Optimal(p, x, y), want, p, x, y)
}

func wantFarkas(t *testing.T, p cert.Problem, y []string, want bool) {
	t.Helper()
	wantBool(t, "Farkas", cert.Farkas(p, y), want, p, y)
}

func wantRay(t *testing.T, p cert.Problem, x, d []string, want bool) {
	t.Helper()
	wantBool(t, "Ray", cert.Ray(p, x, d), want, p, x, d)
}

// row is a problem of one row.
func row(l []int, rel, b int, c []int) cert.Problem {
	return cert.Problem{Rows: [][]int{l}, Rel: []int{rel}, B: []int{b}, C: c}
}

func TestP112Examples(t *testing.T) {
	p := example()
	wantFeasible(t, p, words("2 2"), true)
	wantFeasible(t, p, words("3 1"), false)
	wantDual(t, p, words("2 1"), true)
	wantOptimal(t, p, words("2 2"), words("2 1"), true)
}

// bySort calls with every Rel, and with whether the answer is so for its sort.
func bySort(most, same, least bool, call func(rel int, want bool)) {
	for _, rel := range atMost {
		call(rel, most)
	}
	for _, rel := range theSame {
		call(rel, same)
	}
	for _, rel := range atLeast {
		call(rel, least)
	}
}

func TestP112Relation(t *testing.T) {
	for _, c := range []struct {
		x                 string
		most, same, least bool
	}{
		{"0", true, false, false},
		{"1", true, false, false},
		{"1499999999999999999999999999999/1000000000000000000000000000000", true, false, false},
		{"3/2", true, true, true},
		{"1500000000000000000000000000001/1000000000000000000000000000000", false, false, true},
		{"2", false, false, true},
		{"1000000000000000000000000000000", false, false, true},
	} {
		bySort(c.most, c.same, c.least, func(rel int, want bool) {
			wantFeasible(t, row([]int{2}, rel, 3, []int{0}), words(c.x), want)
		})
		// Turned round, at most and at least change places.
		bySort(c.least, c.same, c.most, func(rel int, want bool) {
			wantFeasible(t, row([]int{-2}, rel, -3, []int{5}), words(c.x), want)
		})
	}
	// Fractions that only together come to what is asked.
	for _, c := range []struct {
		x                 string
		most, same, least bool
	}{
		{"1/3 1/6", true, true, true},
		{"1/3 1/7", true, false, false},
		{"1/3 1/5", false, false, true},
	} {
		bySort(c.most, c.same, c.least, func(rel int, want bool) {
			wantFeasible(t, row([]int{2, 2}, rel, 1, []int{0, 0}), words(c.x), want)
		})
	}
}

func TestP112Below(t *testing.T) {
	for _, below := range []string{"-1", "-" + tiny, "-1000000000000000000000"} {
		for i := range 3 {
			x := words("1 0 2")
			wantFeasible(t, blank(0, 3), x, true)
			wantFeasible(t, row([]int{0, 0, 0}, 0, 0, []int{1, 1, 1}), x, true)
			x[i] = below
			wantFeasible(t, blank(0, 3), x, false)
			wantFeasible(t, row([]int{0, 0, 0}, 0, 0, []int{1, 1, 1}), x, false)
			wantFeasible(t, row([]int{1, 1, 1}, -1, 9, []int{1, 1, 1}), x, false)
		}
	}
	wantFeasible(t, blank(0, 3), words("0 0 "+tiny), true)
}

func TestP112EachRow(t *testing.T) {
	p := cert.Problem{Rows: [][]int{{1, 2}, {3, 4}, {5, 6}}, Rel: []int{-1, 0, 1}, B: []int{5, 11, 17}, C: []int{1, 1}}
	x := words("1 2")
	wantFeasible(t, p, x, true)
	for i, b := range []int{4, 12, 18} {
		q := p
		q.B = slices.Clone(p.B)
		q.B[i] = b
		wantFeasible(t, q, x, false)
	}
	q := p
	q.B = []int{5, 10, 17}
	wantFeasible(t, q, x, false)
	q.B = []int{6, 11, 16}
	wantFeasible(t, q, x, true)
	for i := range p.Rows {
		q := p
		q.Rel = []int{0, 0, 0}
		wantFeasible(t, q, x, true)
		q.B = slices.Clone(p.B)
		q.B[i]++
		wantFeasible(t, q, x, false)
	}
}

func TestP112NoneThere(t *testing.T) {
	p := cert.Problem{}
	wantFeasible(t, p, nil, true)
	wantDual(t, p, nil, true)
	wantOptimal(t, p, nil, []string{}, true)
	wantFarkas(t, p, nil, false)
	wantRay(t, p, nil, nil, false)
	// Without C a row comes to 0.
	for b := -1; b <= 1; b++ {
		bySort(b >= 0, b == 0, b <= 0, func(rel int, want bool) {
			p := row(nil, rel, b, nil)
			wantFeasible(t, p, nil, want)
			wantOptimal(t, p, nil, words("0"), want)
			wantRay(t, p, nil, nil, false)
		})
	}
	// Without rows nothing is summed up.
	for c := -1; c <= 1; c++ {
		p := blank(0, 2)
		p.C[1] = c
		wantDual(t, p, nil, c <= 0)
		wantFarkas(t, p, nil, false)
		wantOptimal(t, p, words("5 0"), nil, c <= 0)
		wantRay(t, p, words("0 0"), words("0 1"), c > 0)
	}
}

func TestP112Signs(t *testing.T) {
	for _, c := range []struct {
		y                 string
		most, same, least bool
	}{
		{"-1", false, true, true},
		{"-" + tiny, false, true, true},
		{"0", true, true, true},
		{tiny, true, true, false},
		{"1", true, true, false},
	} {
		bySort(c.most, c.same, c.least, func(rel int, want bool) {
			// The row comes to 0, so that the sign alone is asked.
			p := row([]int{0, 0}, rel, 7, []int{0, -1})
			wantDual(t, p, words(c.y), want)
			p.Rel = []int{0, rel, 0}
			p.Rows, p.B = [][]int{{0, 0}, {0, 0}, {0, 0}}, []int{0, 7, 0}
			wantDual(t, p, []string{"1", c.y, "-1"}, want)
		})
	}
}

func TestP112Sums(t *testing.T) {
	p := cert.Problem{Rows: [][]int{{1, 2, 3}, {4, 5, 6}}, Rel: []int{-1, 1}, B: []int{1, 1}, C: []int{-2, -1, 0}}
	y := words("2 -1")
	wantDual(t, p, y, true)
	for i := range p.C {
		q := p
		q.C = slices.Clone(p.C)
		q.C[i]++
		wantDual(t, q, y, false)
		q.C[i] -= 2
		wantDual(t, q, y, true)
	}
	// Off by as little as may be.
	wantDual(t, p, words("2 -1000000000000000000000000000001/1000000000000000000000000000000"), false)
	wantDual(t, p, words("2 -999999999999999999999999999999/1000000000000000000000000000000"), true)
	p = row([]int{3}, 0, 0, []int{1})
	wantDual(t, p, words("1/3"), true)
	wantDual(t, p, words("333333333333333333333333333333/1000000000000000000000000000000"), false)
	wantDual(t, p, words("333333333333333333333333333334/1000000000000000000000000000000"), false)
	wantDual(t, p, words("166666666666666666666666666667/500000000000000000000000000000"), true)
	// Neither hangs on B.
	for _, b := range []int{0, 5, -5} {
		wantDual(t, row([]int{1}, -1, b, []int{1}), words("1"), true)
		wantDual(t, row([]int{1}, -1, b, []int{1}), words("1/2"), false)
	}
	// C may be below 0, and y of any sign where its row asks for the same.
	wantDual(t, row([]int{2}, 0, 0, []int{-3}), words("-3/2"), true)
	wantDual(t, row([]int{2}, 0, 0, []int{-3}), words("-8/5"), false)
}

func TestP112Optimal(t *testing.T) {
	p := example()
	for _, c := range []struct {
		x, y string
		want bool
		why  string
	}{
		{"2 2", "2 1", true, ""},
		{"1 1", "2 1", false, "the Value is below the Bound"},
		{"0 0", "2 1", false, "the Value is below the Bound"},
		{"2 2", "3 0", false, "the Bound is above the Value"},
		{"2 1999999999999/1000000000000", "2 1", false, "off by a little"},
		{"2 2", "2 1000000000001/1000000000000", false, "off by a little"},
		{"10/3 0", "2 1", false, "not Feasible, though both are the same"},
		{"4 -1", "2 1", false, "not Feasible, though both are the same"},
		{"2 2", "0 5", false, "not Dual, though both are the same"},
		{"2 2", "5/2 0", false, "not Dual, though both are the same"},
		{"2 2", "3 -1", false, "not Dual, though both are the same"},
		{"10/3 0", "0 5", false, "neither, though both are the same"},
		{"2", "2 1", false, "too short"},
		{"2 2", "2 1 0", false, "too long"},
	} {
		if got := cert.Optimal(p, words(c.x), words(c.y)); got != c.want {
			t.Errorf("Optimal of %s, %s: %v (%s)", c.x, c.y, got, c.why)
		}
	}
	// The same Value as a fraction.
	q := row([]int{3, 6}, 0, 2, []int{1, 2})
	wantOptimal(t, q, words("2/3 0"), words("1/3"), true)
	wantOptimal(t, q, words("0 1/3"), words("1/3"), true)
	wantOptimal(t, q, words("1/3 1/6"), words("1/3"), true)
	wantOptimal(t, q, words("0 1/3"), words("2/3"), false)
	// Of at least: the dearest of what must be.
	q = row([]int{2}, 1, 5, []int{-4})
	wantOptimal(t, q, words("5/2"), words("-2"), true)
	wantOptimal(t, q, words("3"), words("-2"), false)
	wantOptimal(t, q, words("5/2"), words("-1"), false)
	wantOptimal(t, q, words("5/2"), words("2"), false)
}

func TestP113Farkas(t *testing.T) {
	q := row([]int{1}, -1, -1, []int{1})
	wantFarkas(t, q, words("1"), true)
	wantFarkas(t, q, words(tiny), true)
	wantFarkas(t, q, words("0"), false)
	wantFarkas(t, q, words("-1"), false)
	wantFarkas(t, example(), words("2 1"), false)

	// The Bound must be below 0.
	for _, b := range []int{1, 0, -1, billion, -billion} {
		wantFarkas(t, row([]int{0}, -1, b, []int{0}), words("1"), b < 0)
		wantFarkas(t, row([]int{0}, 1, b, []int{0}), words("-1"), b > 0)
		wantFarkas(t, row([]int{0}, 0, b, []int{0}), words("1"), b < 0)
		wantFarkas(t, row([]int{0}, 0, b, []int{0}), words("-1"), b > 0)
	}
	p := cert.Problem{Rows: [][]int{{1}, {1}}, Rel: []int{-1, 1}, B: []int{3, 4}, C: []int{0}}
	wantFarkas(t, p, words("1 -1"), true)
	p.B[1] = 3
	wantFarkas(t, p, words("1 -1"), false)

	// Each sum must be 0 at least, whatever C is.
	p = cert.Problem{Rows: [][]int{{1, 2, 3}, {1, 3, 2}}, Rel: []int{-1, 1}, B: []int{1, 9}, C: []int{5, -5, 0}}
	wantFarkas(t, p, words("3/2 -1"), true)
	wantFarkas(t, p, words("7/5 -1"), false)
	for i := range 3 {
		q := p
		q.Rows = [][]int{slices.Clone(p.Rows[0]), {1, 1, 1}}
		wantFarkas(t, q, words("1 -1"), true)
		q.Rows[0][i] = 0
		wantFarkas(t, q, words("1 -1"), false)
	}
	// Signs, with sums that are 0.
	bySort(false, true, true, func(rel int, want bool) {
		wantFarkas(t, row([]int{0}, rel, 1, []int{0}), words("-1"), want)
	})
	bySort(true, true, false, func(rel int, want bool) {
		wantFarkas(t, row([]int{0}, rel, -1, []int{0}), words("1"), want)
	})
}

func TestP113Ray(t *testing.T) {
	r := row([]int{1, -1}, 1, 1, []int{1, -1})
	wantRay(t, r, words("1 0"), words("1 0"), true)
	wantRay(t, r, words("1 0"), words("2 1"), true)
	wantRay(t, r, words("1 0"), []string{tiny, "0"}, true)
	// x is not Feasible: by its row, by what is below 0.
	wantRay(t, r, words("0 0"), words("1 0"), false)
	wantRay(t, r, words("1/2 0"), words("1 0"), false)
	wantRay(t, r, words("0 -1"), words("1 0"), false)
	// C times d is 0, or below 0.
	wantRay(t, r, words("1 0"), words("1 1"), false)
	wantRay(t, r, words("1 0"), words("0 0"), false)
	wantRay(t, r, words("1 0"), words("0 1"), false)
	wantRay(t, row([]int{0}, 0, 0, []int{-1}), words("0"), words("1"), false)
	wantRay(t, row([]int{0}, 0, 0, []int{0}), words("0"), words("1"), false)
	wantRay(t, row([]int{0}, 0, 0, []int{1}), words("0"), words("1"), true)

	// A d below 0.
	for _, below := range []string{"-1", "-" + tiny} {
		p := blank(1, 2)
		p.C = []int{5, -1}
		wantRay(t, p, words("9 9"), []string{"1", below}, false)
		p.C = []int{-1, 5}
		wantRay(t, p, words("9 9"), []string{below, "1"}, false)
		wantRay(t, p, words("9 9"), words("0 1"), true)
	}
}

func TestP113RayRelation(t *testing.T) {
	for _, c := range []struct {
		d                 string
		most, same, least bool
	}{
		{"1 2", true, false, false},
		{"1 1", true, true, true},
		{"2 1", false, false, true},
		{"1 1000000000000000000000001/1000000000000000000000000", true, false, false},
		{"1 999999999999999999999999/1000000000000000000000000", false, false, true},
	} {
		bySort(c.most, c.same, c.least, func(rel int, want bool) {
			// Whatever the B is, d is held against 0.
			for _, b := range []int{-3, 0, 3} {
				p := row([]int{1, -1}, rel, b, []int{1, 1})
				x := [][]string{words("0 3"), words("1 1"), words("3 0")}[b/3+1]
				wantRay(t, p, x, words(c.d), want)
				p = cert.Problem{Rows: [][]int{{0, 0}, {1, -1}, {0, 0}}, Rel: []int{0, rel, 0}, B: []int{0, b, 0}, C: []int{1, 1}}
				wantRay(t, p, x, words(c.d), want)
			}
		})
	}
}

// shown is what all of them tell.
type shown struct{ feasible, dual, optimal, farkas, ray bool }

func showAll(p cert.Problem, x, y, d []string) shown {
	return shown{cert.Feasible(p, x), cert.Dual(p, y), cert.Optimal(p, x, y), cert.Farkas(p, y), cert.Ray(p, x, d)}
}

func TestP112FalseBesideErrors(t *testing.T) {
	// As it stands, each of them is true of one of these.
	good := row([]int{1, 0}, -1, 2, []int{1, 0})
	x, y := words("2 0"), words("1")
	none := row([]int{1, 1}, -1, -1, []int{0, 0})
	free := row([]int{1, 0}, -1, 2, []int{0, 1})
	all := func(good, none, free cert.Problem, x, y, d []string) shown {
		return shown{
			cert.Feasible(good, x), cert.Dual(good, y), cert.Optimal(good, x, y),
			cert.Farkas(none, y), cert.Ray(free, x, d),
		}
	}
	if got := all(good, none, free, x, y, words("0 1")); got != (shown{true, true, true, true, true}) {
		t.Errorf("without an error: %+v", got)
	}
	for name, spoil := range map[string]func(p cert.Problem) cert.Problem{
		"Rel longer":  func(p cert.Problem) cert.Problem { p.Rel = []int{-1, -1}; return p },
		"no Rel":      func(p cert.Problem) cert.Problem { p.Rel = nil; return p },
		"a row more":  func(p cert.Problem) cert.Problem { p.Rows = [][]int{p.Rows[0], {0, 0}}; return p },
		"no rows":     func(p cert.Problem) cert.Problem { p.Rows = nil; return p },
		"a row long":  func(p cert.Problem) cert.Problem { p.Rows = [][]int{{0, 0, 0}}; return p },
		"a row short": func(p cert.Problem) cert.Problem { p.Rows = [][]int{{1}}; return p },
		"below, in C": func(p cert.Problem) cert.Problem { p.C = []int{p.C[0], -billion - 1}; return p },
		"below, in a row": func(p cert.Problem) cert.Problem {
			p.Rows = [][]int{{p.Rows[0][0], -billion - 1}}
			return p
		},
		"above, in a row": func(p cert.Problem) cert.Problem {
			p.Rows = [][]int{{p.Rows[0][0], billion + 1}}
			return p
		},
	} {
		if got := all(spoil(good), spoil(none), spoil(free), x, y, words("0 1")); got != (shown{}) {
			t.Errorf("%s: %+v", name, got)
		}
	}
	for name, l := range map[string][2][]string{
		"none":     {nil, nil},
		"short":    {words("2"), nil},
		"long":     {words("2 0 0"), words("1 0")},
		"no texts": {words("2 x"), words("y")},
		"terms":    {words("2 0/1"), words("1/1")},
		"terms 2":  {words("4/2 0"), words("2/2")},
		"empty":    {{"2", ""}, {""}},
		"plus":     {words("+2 0"), words("+1")},
	} {
		if got := all(good, none, free, l[0], l[1], words("0 1")); got != (shown{}) {
			t.Errorf("%s: %+v", name, got)
		}
		if cert.Optimal(good, x, l[1]) || cert.Optimal(good, l[0], y) {
			t.Errorf("%s: Optimal", name)
		}
		if cert.Ray(free, x, l[0]) || cert.Ray(free, l[0], words("0 1")) {
			t.Errorf("%s: Ray", name)
		}
	}
	for _, d := range []string{"", "1", "0 1 0", "0 x", "x 1", "0 2/2", "0 1/1", "-0 1"} {
		wantRay(t, free, x, words(d), false)
	}
}

func TestP112FalseBesideMany(t *testing.T) {
	for _, many := range []int{64, 65} {
		fits := many == 64
		for _, p := range []cert.Problem{blank(many, 1), blank(1, many), blank(many, many)} {
			zero := same("0", len(p.C))
			wantFeasible(t, p, zero, fits)
			wantDual(t, p, same("0", len(p.B)), fits)
			wantOptimal(t, p, zero, same("0", len(p.B)), fits)
			p.B[0] = -1
			wantFarkas(t, p, same("1", len(p.B)), fits)
			p.B[0], p.C[0] = 0, 1
			wantRay(t, p, zero, same("1", len(p.C)), fits)
		}
	}
	for _, n := range []int{billion, billion + 1} {
		fits := n == billion
		p := row([]int{n}, -1, n, []int{n})
		wantFeasible(t, p, words("1"), fits)
		wantDual(t, p, words("1"), fits)
		wantOptimal(t, p, words("1"), words("1"), fits)
		wantFarkas(t, row([]int{1}, -1, -n, []int{1}), words("1"), fits)
		wantFarkas(t, row([]int{n}, -1, -1, []int{1}), words("1"), fits)
		wantRay(t, row([]int{-n}, -1, n, []int{n}), words("1"), words("1"), fits)
		wantFeasible(t, row([]int{-n}, -1, -n, []int{0}), words("1"), fits)
		wantDual(t, row([]int{-n}, 1, -n, []int{n}), words("-1"), fits)
	}
}

// within has spare room behind what is told of it.
func within[E any](l []E, more ...E) []E {
	return append(slices.Clone(l), more...)[:len(l)]
}

// rooms is all of a problem, with the spare room of each list.
func rooms(p cert.Problem) cert.Problem {
	all := cert.Problem{
		Rel: slices.Clone(p.Rel[:cap(p.Rel)]), B: slices.Clone(p.B[:cap(p.B)]), C: slices.Clone(p.C[:cap(p.C)]),
	}
	for _, row := range p.Rows[:cap(p.Rows)] {
		all.Rows = append(all.Rows, slices.Clone(row[:cap(row)]))
	}
	return all
}

func TestR3WhatIsHandedInStays(t *testing.T) {
	p := example()
	for i, row := range p.Rows {
		p.Rows[i] = within(row, 7, 8)
	}
	p.Rows, p.Rel = within(p.Rows, []int{1, 2}, []int{3}), within(p.Rel, 5, 6)
	p.B, p.C = within(p.B, 1, 2, 3), within(p.C, 9, 9)
	x, y := within(words("2 2"), "x", "5"), within(words("2 1"), "y")
	wasP, wasX, wasY := rooms(p), slices.Clone(x[:cap(x)]), slices.Clone(y[:cap(y)])
	for range 2 {
		if e := cert.Check(p); e != api.OK {
			t.Errorf("Check: error %d", e)
		}
		wantValue(t, p, x, answer{text: "10"})
		wantBound(t, p, y, answer{text: "10"})
		if got := showAll(p, x, y, x); got != (shown{true, true, true, false, false}) {
			t.Errorf("%+v", got)
		}
	}
	if !reflect.DeepEqual(rooms(p), wasP) {
		t.Errorf("the problem: %v, not %v", rooms(p), wasP)
	}
	if !slices.Equal(x[:cap(x)], wasX) || !slices.Equal(y[:cap(y)], wasY) {
		t.Errorf("the lists: %q, %q, not %q, %q", x[:cap(x)], y[:cap(y)], wasX, wasY)
	}
}
