package lp_test

import (
	"math"
	"reflect"
	"slices"
	"strconv"
	"strings"
	"testing"
	"time"

	"noonbell/api"
	"noonbell/cert"
	"noonbell/lp"
)

const billion = 1000000000

func numbers(line string) []int {
	l := []int{}
	for _, word := range strings.Fields(line) {
		n, err := strconv.Atoi(word)
		if err != nil {
			panic(err)
		}
		l = append(l, n)
	}
	return l
}

// asks is a problem: its C, and its rows, such as 1 1 <= 4.
func asks(c string, rows ...string) cert.Problem {
	p := cert.Problem{C: numbers(c)}
	for _, row := range rows {
		for rel, sign := range []string{"<=", "==", ">="} {
			if left, right, ok := strings.Cut(row, sign); ok {
				p.Rows, p.Rel, p.B = append(p.Rows, numbers(left)), append(p.Rel, rel-1), append(p.B, numbers(right)...)
			}
		}
	}
	return p
}

// blank is a problem of so many rows and so many of C, all of them 0.
func blank(rows, columns int) cert.Problem {
	p := cert.Problem{Rel: make([]int, rows), B: make([]int, rows), C: make([]int, columns)}
	for range rows {
		p.Rows = append(p.Rows, make([]int, columns))
	}
	return p
}

func clone(p cert.Problem) cert.Problem {
	p.Rel, p.B, p.C = slices.Clone(p.Rel), slices.Clone(p.B), slices.Clone(p.C)
	p.Rows = slices.Clone(p.Rows)
	for i, row := range p.Rows {
		p.Rows[i] = slices.Clone(row)
	}
	return p
}

// solved is the solution, once it is known that its kind is shown.
func solved(t *testing.T, p cert.Problem) lp.Solution {
	t.Helper()
	was := clone(p)
	s, e := lp.Solve(p)
	if e != api.OK {
		t.Fatalf("%+v: error %d", p, e)
	}
	if !reflect.DeepEqual(p, was) {
		t.Fatalf("%+v was changed: %+v", was, p)
	}
	if !isShown(p, s) {
		t.Fatalf("%+v: %+v does not show it", p, s)
	}
	return s
}

// isShown tells whether the solution is what its kind asks, and nothing more.
func isShown(p cert.Problem, s lp.Solution) bool {
	hasX, hasY, hasD := len(s.X) > 0, len(s.Y) > 0, len(s.D) > 0
	switch s.Kind {
	case lp.Optimal:
		value, e := cert.Value(p, s.X)
		return !hasD && cert.Optimal(p, s.X, s.Y) && e == api.OK && s.Value == value
	case lp.Infeasible:
		return !hasX && !hasD && s.Value == "" && cert.Farkas(p, s.Y)
	case lp.Unbounded:
		return !hasY && s.Value == "" && cert.Ray(p, s.X, s.D)
	}
	return false
}

func wantOptimal(t *testing.T, p cert.Problem, value string) lp.Solution {
	t.Helper()
	s := solved(t, p)
	if s.Kind != lp.Optimal || s.Value != value {
		t.Errorf("%+v: %+v, not the optimum %s", p, s, value)
	}
	return s
}

func wantKind(t *testing.T, p cert.Problem, kind int) lp.Solution {
	t.Helper()
	s := solved(t, p)
	if s.Kind != kind {
		t.Errorf("%+v: %+v, not of kind %d", p, s, kind)
	}
	return s
}

func wantList(t *testing.T, what string, got []string, want string) {
	t.Helper()
	if strings.Join(got, " ") != want {
		t.Errorf("%s: %q, not %s", what, got, want)
	}
}

// wantError holds that the problem is refused, and nothing else is told.
func wantError(t *testing.T, p cert.Problem, want api.Errno) {
	t.Helper()
	s, e := lp.Solve(p)
	if e != want {
		t.Errorf("%d rows, %d of C: error %d, not %d", len(p.Rows), len(p.C), e, want)
	}
	if e != api.OK && (s.Kind != 0 || len(s.X)+len(s.Y)+len(s.D) > 0 || s.Value != "") {
		t.Errorf("beside the error %d: %+v", e, s)
	}
}

func TestP131Examples(t *testing.T) {
	s := wantOptimal(t, asks("3 2", "1 1 <= 4", "1 0 <= 2"), "10")
	wantList(t, "X", s.X, "2 2")
	wantList(t, "Y", s.Y, "2 1")
	wantKind(t, asks("1", "1 <= -1"), lp.Infeasible)
	wantKind(t, asks("1 -1", "1 -1 >= 1"), lp.Unbounded)
	if lp.Optimal != 1 || lp.Infeasible != 2 || lp.Unbounded != 3 {
		t.Error("the kinds' numbers")
	}
}

func TestP131Optimal(t *testing.T) {
	// A fraction.
	s := wantOptimal(t, asks("1 1", "2 1 <= 1", "1 2 <= 1"), "2/3")
	wantList(t, "X", s.X, "1/3 1/3")
	wantList(t, "Y", s.Y, "1/3 1/3")
	// Below 0.
	s = wantOptimal(t, asks("-2 -3", "1 1 >= 4", "1 3 >= 6"), "-9")
	wantList(t, "X", s.X, "3 1")
	wantList(t, "Y", s.Y, "-3/2 -1/2")
	// All three relations; Y is of each sign.
	s = wantOptimal(t, asks("1 2 -1", "1 1 1 == 10", "0 1 0 <= 3", "0 0 1 >= 2"), "9")
	wantList(t, "X", s.X, "5 3 2")
	wantList(t, "Y", s.Y, "1 1 -2")
	s = wantOptimal(t, asks("-1 -2", "1 1 == 3", "1 0 <= 1"), "-5")
	wantList(t, "X", s.X, "1 2")
	wantList(t, "Y", s.Y, "-2 1")
	// Nothing is to be gained.
	s = wantOptimal(t, asks("-1 -1", "1 1 <= 5"), "0")
	wantList(t, "X", s.X, "0 0")
	wantList(t, "Y", s.Y, "0")
	// A goal of noughts: any point will do.
	wantOptimal(t, asks("0 0", "1 1 >= 2", "1 -1 == 1"), "0")
	// Without end in some direction, but not in that of C.
	wantOptimal(t, asks("-1 1", "-1 1 <= 2", "1 0 >= 3"), "2")
	// Without end along which the value is the same.
	wantOptimal(t, asks("1 -1", "1 -1 <= 1"), "1")
	// The same with B below 0.
	wantOptimal(t, asks("-1", "-1 == -7"), "-7")
}

func TestP131Infeasible(t *testing.T) {
	for _, p := range []cert.Problem{
		asks("1", "1 <= -1"),
		asks("1", "-1 >= 1"),
		asks("1", "1 == -1"),
		asks("1", "-1 == 1"),
		asks("0", "1 <= 1", "1 >= 2"),
		asks("-1", "1 == 1", "1 == 2"),
		asks("-1", "1 == 2", "1 == 1"),
		asks("1 1", "1 1 <= 1", "1 0 >= 1", "0 1 >= 1"),
		asks("1 1", "1 -1 >= 1", "-1 1 >= 1"),
		asks("1 1", "1 -1 == 1", "-1 1 == 1"),
		asks("1 1", "1 1 == 3", "2 2 == 5"),
		asks("1 1", "1 1 == -3", "2 2 <= 5"),
		asks("1 1 1", "1 1 0 <= 1", "0 1 1 <= 1", "1 0 1 <= 1", "1 1 1 >= 2"),
		asks("5 5", "3 0 == 1", "0 3 == 1", "3 3 == 1"),
		// Even where some variable has no end.
		asks("1 1", "1 0 <= 1", "1 0 >= 2"),
	} {
		wantKind(t, p, lp.Infeasible)
	}
	wantList(t, "Y", wantKind(t, asks("1", "1 <= 1", "1 >= 2"), lp.Infeasible).Y, "1 -1")
}

func TestP131Unbounded(t *testing.T) {
	for _, p := range []cert.Problem{
		asks("1"),
		asks("1", "1 >= 0"),
		asks("1", "1 >= 5"),
		asks("1", "-1 <= 5"),
		asks("1", "-1 <= -5"),
		asks("1 0", "0 1 <= 5"),
		asks("1 0", "0 1 == 5"),
		asks("1 0", "0 1 >= 5"),
		asks("1 1", "1 -1 == 0"),
		asks("1 1", "1 -1 == -3"),
		asks("-1 2", "1 -1 == 3"),
		asks("-1 2", "-1 1 <= -3", "1 -1 <= 5"),
		asks("-1 2 1", "1 -1 1 == 3", "1 1 -1 >= 5"),
	} {
		wantKind(t, p, lp.Unbounded)
	}
	s := wantKind(t, asks("-1 2", "1 -2 == 3", "1 0 >= 7", "1 -1 >= 1"), lp.Optimal)
	wantList(t, "X", s.X, "7 2")
	// A slack grows, and no variable that was 0.
	s = wantKind(t, asks("1", "1 >= 2"), lp.Unbounded)
	wantList(t, "D", s.D, "1")
}

func TestP131Shape(t *testing.T) {
	good := asks("3 2", "1 1 <= 4", "1 0 <= 2")
	wantError(t, good, api.OK)
	for _, spoil := range []func(p *cert.Problem){
		func(p *cert.Problem) { p.Rel = p.Rel[:1] },
		func(p *cert.Problem) { p.Rel = append(p.Rel, 0) },
		func(p *cert.Problem) { p.Rel = nil },
		func(p *cert.Problem) { p.B = p.B[:1] },
		func(p *cert.Problem) { p.B = append(p.B, 0) },
		func(p *cert.Problem) { p.B = nil },
		func(p *cert.Problem) { p.Rows = p.Rows[:1] },
		func(p *cert.Problem) { p.Rows = append(p.Rows, []int{0, 0}) },
		func(p *cert.Problem) { p.Rows = nil },
		func(p *cert.Problem) { p.C = p.C[:1] },
		func(p *cert.Problem) { p.C = append(p.C, 0) },
		func(p *cert.Problem) { p.C = nil },
		func(p *cert.Problem) { p.Rows[0] = p.Rows[0][:1] },
		func(p *cert.Problem) { p.Rows[1] = append(p.Rows[1], 0) },
		func(p *cert.Problem) { p.Rows[1] = nil },
	} {
		p := clone(good)
		spoil(&p)
		wantError(t, p, api.ErrShape)
	}
}

func TestP131Size(t *testing.T) {
	for _, n := range []int{billion + 1, -billion - 1, math.MaxInt, math.MinInt, 1 << 32, -1 << 32} {
		for _, at := range []func(p *cert.Problem) *int{
			func(p *cert.Problem) *int { return &p.Rows[0][0] },
			func(p *cert.Problem) *int { return &p.Rows[1][1] },
			func(p *cert.Problem) *int { return &p.B[0] },
			func(p *cert.Problem) *int { return &p.B[1] },
			func(p *cert.Problem) *int { return &p.C[0] },
			func(p *cert.Problem) *int { return &p.C[1] },
		} {
			p := asks("3 2", "1 1 <= 4", "1 0 <= 2")
			*at(&p) = n
			wantError(t, p, api.ErrMany)
		}
	}
	// As great, and as small, as may be.
	wantOptimal(t, asks("1000000000", "1 <= 1000000000"), "1000000000000000000")
	wantOptimal(t, asks("-1000000000", "1 >= 1000000000"), "-1000000000000000000")
	wantOptimal(t, asks("1000000000", "1000000000 <= 1"), "1")
	wantOptimal(t, asks("1000000000", "-1000000000 == -1000000000"), "1000000000")
	wantKind(t, asks("1000000000", "1000000000 <= -1000000000"), lp.Infeasible)
	wantKind(t, asks("1000000000", "-1000000000 <= 1000000000"), lp.Unbounded)
}

func TestP131AnyRel(t *testing.T) {
	for _, rel := range []int{-1, -2, -billion - 1, math.MinInt} {
		p := asks("1", "1 <= 7")
		p.Rel[0] = rel
		wantOptimal(t, p, "7")
	}
	for _, rel := range []int{1, 2, billion + 1, math.MaxInt} {
		p := asks("-1", "1 >= 7")
		p.Rel[0] = rel
		wantOptimal(t, p, "-7")
	}
}

func TestP131Many(t *testing.T) {
	for many, want := range map[int]api.Errno{
		59: api.OK, 60: api.OK, 61: api.ErrMany, 62: api.ErrMany, 64: api.ErrMany, 65: api.ErrMany, 200: api.ErrMany,
	} {
		wantError(t, blank(many, 0), want)
		wantError(t, blank(many, 2), want)
		wantError(t, blank(0, many), want)
		wantError(t, blank(2, many), want)
		wantError(t, blank(many, many), want)
	}
	wantError(t, blank(60, 61), api.ErrMany)
	wantError(t, blank(61, 60), api.ErrMany)
	wantOptimal(t, blank(60, 60), "0")
}

func TestP131FirstError(t *testing.T) {
	for _, p := range []cert.Problem{blank(61, 61), blank(65, 65), blank(61, 2), blank(2, 61)} {
		p.Rel = append(p.Rel, 0)
		wantError(t, p, api.ErrShape)
		p = blank(len(p.Rows), len(p.C))
		p.Rows[1] = p.Rows[1][1:]
		wantError(t, p, api.ErrShape)
		p = blank(len(p.Rows), len(p.C))
		p.B[0] = billion + 1
		wantError(t, p, api.ErrMany)
		p.B = p.B[1:]
		wantError(t, p, api.ErrShape)
	}
	p := asks("1", "1 <= 1")
	p.C[0], p.Rel = billion+1, nil
	wantError(t, p, api.ErrShape)
}

func TestP131NoRows(t *testing.T) {
	for _, p := range []cert.Problem{{}, {Rows: [][]int{}, Rel: []int{}, B: []int{}, C: []int{}}} {
		s := wantOptimal(t, p, "0")
		if len(s.X)+len(s.Y) > 0 {
			t.Errorf("%+v", s)
		}
	}
	wantList(t, "X", wantOptimal(t, asks("-1 0 -2"), "0").X, "0 0 0")
	s := wantKind(t, asks("-1 0 2"), lp.Unbounded)
	wantList(t, "X", s.X, "0 0 0")
	wantList(t, "D", s.D, "0 0 1")
}

func TestP131NothingInC(t *testing.T) {
	for _, rows := range []string{"<= 0", "== 0", ">= 0", "<= 1", ">= -1"} {
		wantOptimal(t, asks("", rows), "0")
		wantOptimal(t, asks("", rows, rows), "0")
	}
	for _, rows := range []string{"<= -1", "== 1", "== -1", ">= 1"} {
		wantKind(t, asks("", rows), lp.Infeasible)
		wantKind(t, asks("", rows, "<= 0"), lp.Infeasible)
		wantKind(t, asks("", ">= 0", rows), lp.Infeasible)
	}
}

// oneKind is what a problem with one variable and one row comes to.
func oneKind(a, rel, b, c int) int {
	holdsAtNought := rel < 0 && b >= 0 || rel == 0 && b == 0 || rel > 0 && b <= 0
	hasEqual := a != 0 && a*b >= 0
	hasNoEnd := a == 0 || rel < 0 && a < 0 || rel > 0 && a > 0
	switch {
	case !holdsAtNought && !hasEqual:
		return lp.Infeasible
	case c > 0 && hasNoEnd:
		return lp.Unbounded
	}
	return lp.Optimal
}

func TestP131OneRowOfOne(t *testing.T) {
	counts := map[int]int{}
	for a := -3; a <= 3; a++ {
		for rel := -1; rel <= 1; rel++ {
			for b := -3; b <= 3; b++ {
				for c := -1; c <= 1; c++ {
					p := cert.Problem{Rows: [][]int{{a}}, Rel: []int{rel}, B: []int{b}, C: []int{c}}
					wantKind(t, p, oneKind(a, rel, b, c))
					counts[oneKind(a, rel, b, c)]++
				}
			}
		}
	}
	for kind := 1; kind <= 3; kind++ {
		if counts[kind] < 50 {
			t.Errorf("kind %d: %d times alone", kind, counts[kind])
		}
	}
}

func TestP131RowsOfNoughts(t *testing.T) {
	for _, row := range []string{"0 0 <= 0", "0 0 == 0", "0 0 >= 0", "0 0 <= 2", "0 0 >= -2"} {
		wantOptimal(t, asks("1 1", row, "1 2 <= 4"), "4")
		wantOptimal(t, asks("1 1", "1 2 == 4", row), "4")
		wantOptimal(t, asks("-1 -1", row, "1 2 >= 4", row), "-2")
		wantKind(t, asks("1 1", row), lp.Unbounded)
		wantKind(t, asks("1 1", row, "1 -1 == 2"), lp.Unbounded)
	}
	for _, row := range []string{"0 0 <= -1", "0 0 == 1", "0 0 == -1", "0 0 >= 1"} {
		wantKind(t, asks("1 1", row, "1 2 <= 4"), lp.Infeasible)
		wantKind(t, asks("1 1", "1 2 == 4", row), lp.Infeasible)
		wantKind(t, asks("0 0", row), lp.Infeasible)
	}
}

func TestP131SaidTwice(t *testing.T) {
	wantOptimal(t, asks("3 2", "1 1 <= 4", "1 1 <= 4", "1 0 <= 2", "1 0 <= 2"), "10")
	wantOptimal(t, asks("1 1", "1 2 == 4", "2 4 == 8", "-1 -2 == -4", "3 1 <= 7"), "3")
	wantOptimal(t, asks("-1 -1", "1 2 >= 4", "-1 -2 <= -4", "2 4 >= 8"), "-2")
	// An equation as two rows, and both beside it.
	wantOptimal(t, asks("1 0", "1 1 <= 4", "1 1 >= 4", "0 1 >= 1"), "3")
	wantOptimal(t, asks("1 0", "1 1 <= 4", "1 1 == 4", "1 1 >= 4", "0 1 >= 1"), "3")
	// The third is the first two together.
	wantOptimal(t, asks("1 1 1", "1 1 0 == 2", "0 1 1 == 3", "1 2 1 == 5"), "5")
	wantKind(t, asks("1 1 1", "1 1 0 == 2", "0 1 1 == 3", "1 2 1 == 6"), lp.Infeasible)
	wantKind(t, asks("1 1", "1 -1 == 0", "2 -2 == 0", "-1 1 <= 0"), lp.Unbounded)
}

func TestP131SeveralBasesOfOnePoint(t *testing.T) {
	// Three lines, and more, through one point.
	wantOptimal(t, asks("1 1", "1 0 <= 1", "0 1 <= 1", "1 1 <= 2", "2 1 <= 3", "1 2 <= 3"), "2")
	wantOptimal(t, asks("-1 -1", "1 0 >= 1", "0 1 >= 1", "1 1 >= 2", "2 1 >= 3", "1 2 >= 3"), "-2")
	wantOptimal(t, asks("2 1 3", "1 -1 0 <= 0", "0 1 -1 <= 0", "-1 0 1 <= 0", "1 1 1 == 3"), "6")
	wantOptimal(t, asks("1 2 3", "1 0 0 == 0", "0 1 0 == 0", "1 1 1 == 0", "1 -1 1 <= 0"), "0")
	wantKind(t, asks("1 1 1", "1 -1 0 <= 0", "-1 1 0 <= 0", "0 1 -1 == 0"), lp.Unbounded)
}

// wantInTime holds that the problem has this optimum, and that the call ends.
func wantInTime(t *testing.T, p cert.Problem, kind int, value string) {
	t.Helper()
	done := make(chan lp.Solution)
	go func() {
		s, _ := lp.Solve(p)
		done <- s
	}()
	select {
	case s := <-done:
		if s.Kind != kind || s.Value != value || !isShown(p, s) {
			t.Errorf("%+v: %+v, not of kind %d, %q", p, s, kind, value)
		}
	case <-time.After(time.Minute):
		t.Fatalf("%+v: no end", p)
	}
}

func TestP131NotRoundForEver(t *testing.T) {
	// Problems of which it is known that one goes round, if always the variable
	// with the greatest gain comes in: as they are told, ..
	wantInTime(t, asks("75 -15000 2 -600", "25 -6000 -4 900 <= 0", "50 -9000 -2 300 <= 0", "0 0 1 0 <= 1"), lp.Optimal, "5")
	wantInTime(t, asks("10 -57 -9 -24", "1 -11 -5 18 <= 0", "1 -3 -1 2 <= 0", "1 0 0 0 <= 1"), lp.Optimal, "1")
	wantInTime(t, asks("2 3 -1 -12", "-2 -9 1 9 <= 0", "1 3 -1 -6 <= 0", "2 3 -1 -12 <= 2"), lp.Optimal, "2")
	wantInTime(t, asks("3 -80 2 -24", "1 -32 -4 36 <= 0", "1 -24 -1 6 <= 0"), lp.Unbounded, "")
	wantInTime(t, asks("46 43 -271 -8", "2 1 -7 -1 <= 0", "-39 -7 39 2 <= 0", "1 0 0 0 <= 1"), lp.Unbounded, "")
	// .. and with slacks of their own, so that the steps are of just that
	// length.
	wantInTime(t, asks("0 0 10 -57 -9 -24", "2 0 1 -11 -5 18 == 0", "0 2 1 -3 -1 2 == 0", "0 0 1 0 0 0 <= 1"), lp.Optimal, "1")
	wantInTime(t, asks("75 -15000 2 -600 0 0", "25 -6000 -4 900 100 0 == 0", "50 -9000 -2 300 0 100 == 0", "0 0 1 0 0 0 <= 1"), lp.Optimal, "5")
	wantInTime(t, asks("0 0 3 -80 2 -24", "4 0 1 -32 -4 36 == 0", "0 2 1 -24 -1 6 == 0", "0 0 0 0 1 0 <= 1"), lp.Optimal, "5")
	// Such as go round while nothing feasible is found.
	wantInTime(t, asks("0 0 0 0 0 0", "1 2 3 4 5 6 == 100", "9 0 14 8 2 7 == 5", "9 -1 14 5 -4 4 <= 10", "15 5 -5 2 10 -6 <= 8"), lp.Infeasible, "")
	wantInTime(t, asks("0 0 0 0 0 0", "1 2 3 4 5 6 == 100", "-4 -3 1 11 -4 -4 >= 0", "-4 -12 -7 13 9 -10 <= 4", "-3 -9 -1 -12 -11 -5 == -10"), lp.Infeasible, "")
	wantInTime(t, asks("0 0 0 0 0", "1 2 3 4 5 == 100", "-9 -10 -9 -7 -1 >= 5", "12 -4 -6 -5 8 >= 0", "11 -3 8 10 -13 <= 10", "-6 5 -6 -11 1 == -7", "6 8 -2 -3 -3 <= -6"), lp.Infeasible, "")
}

// longWay is a problem on whose edges there is a way through all corners.
func longWay(n int) (cert.Problem, string) {
	p := blank(n, n)
	five := 1
	for i := range n {
		five *= 5
		for j := range i {
			p.Rows[i][j] = 1 << (i - j + 1)
		}
		p.Rows[i][i], p.Rel[i], p.B[i], p.C[i] = 1, -1, five, 1<<(n-1-i)
	}
	return p, strconv.Itoa(five)
}

func TestP131LongWay(t *testing.T) {
	for n := 1; n <= 9; n++ {
		p, value := longWay(n)
		wantInTime(t, p, lp.Optimal, value)
	}
}

func TestP132NeverTwo(t *testing.T) {
	// Some of what could show another kind does not.
	bounded, none, endless := asks("3 2", "1 1 <= 4", "1 0 <= 2"), asks("1 1", "1 1 <= -1"), asks("1 0", "1 -1 <= 2")
	for i, p := range []cert.Problem{bounded, none, endless} {
		s := wantKind(t, p, i+1)
		for _, x := range lists(2) {
			for _, d := range lists(2) {
				if (s.Kind != lp.Unbounded) && cert.Ray(p, x, d) {
					t.Errorf("%+v: Ray of %q, %q", p, x, d)
				}
			}
			for _, y := range lists(len(p.Rows)) {
				if s.Kind != lp.Optimal && cert.Optimal(p, x, y) {
					t.Errorf("%+v: Optimal of %q, %q", p, x, y)
				}
				if s.Kind != lp.Infeasible && cert.Farkas(p, y) {
					t.Errorf("%+v: Farkas of %q", p, y)
				}
			}
		}
	}
}

// lists are all lists of so many of some numbers.
func lists(many int) [][]string {
	l := [][]string{nil}
	for range many {
		var longer [][]string
		for _, list := range l {
			for _, text := range []string{"-2", "-1", "-1/2", "0", "1/2", "1", "2", "3"} {
				longer = append(longer, append(slices.Clone(list), text))
			}
		}
		l = longer
	}
	return l
}

// within has spare room behind what is told of it.
func within[E any](l []E, more ...E) []E {
	return append(slices.Clone(l), more...)[:len(l)]
}

// roomy has spare room behind each of its lists.
func roomy(p cert.Problem) cert.Problem {
	p = clone(p)
	for i, row := range p.Rows {
		p.Rows[i] = within(row, 7, 8)
	}
	p.Rows, p.Rel = within(p.Rows, []int{1, 2}, []int{3}), within(p.Rel, 5, 6)
	p.B, p.C = within(p.B, 1, 2, 3), within(p.C, 9, 9)
	return p
}

// rooms is all of a problem, with the spare room of each list.
func rooms(p cert.Problem) cert.Problem {
	p.Rows, p.Rel = p.Rows[:cap(p.Rows)], p.Rel[:cap(p.Rel)]
	p.B, p.C = p.B[:cap(p.B)], p.C[:cap(p.C)]
	p = clone(p)
	for i, row := range p.Rows {
		p.Rows[i] = row[:cap(row)]
	}
	return p
}

// kinds is a problem of each kind.
func kinds() []cert.Problem {
	return []cert.Problem{
		asks("1 2 -1", "1 1 1 == 10", "0 1 0 <= 3", "0 0 1 >= 2"),
		asks("1 2 -1", "1 1 1 == 10", "0 1 0 >= 6", "1 0 1 >= 6"),
		asks("1 2 -1", "1 1 -1 == 10", "0 1 0 >= 6", "1 0 0 <= 4"),
	}
}

func TestR3WhatIsHandedInStays(t *testing.T) {
	for i, p := range kinds() {
		p = roomy(p)
		was := rooms(p)
		s := wantKind(t, p, i+1)
		if !reflect.DeepEqual(rooms(p), was) {
			t.Errorf("the problem: %+v, not %+v", rooms(p), was)
		}
		// Nor does what stands in the room tell.
		if again := solved(t, clone(p)); !reflect.DeepEqual(again, s) {
			t.Errorf("%+v, with spare room %+v", again, s)
		}
	}
}

func TestR3NewMemory(t *testing.T) {
	for _, p := range kinds() {
		s := solved(t, p)
		want := solved(t, p)
		// All that one of its lists has is written over, in its room, too.
		for i := range 3 {
			got := solved(t, p)
			all := []*[]string{&got.X, &got.Y, &got.D}
			spoilt := (*all[i])[:cap(*all[i])]
			for j := range spoilt {
				spoilt[j] = "x"
			}
			*all[i] = [][]string{want.X, want.Y, want.D}[i]
			if !reflect.DeepEqual(got, want) {
				t.Errorf("%+v: list %d shares memory: %+v, not %+v", p, i, got, want)
			}
		}
		for i := range p.Rows {
			p.Rel[i], p.B[i] = 9, 9
			clear(p.Rows[i])
		}
		clear(p.C)
		if !reflect.DeepEqual(s, want) {
			t.Errorf("%+v, once the problem was written over: %+v", want, s)
		}
	}
}

func TestR5OneAnswer(t *testing.T) {
	for _, p := range kinds() {
		first := solved(t, p)
		for _, other := range kinds() {
			solved(t, other)
			if again := solved(t, clone(p)); !reflect.DeepEqual(again, first) {
				t.Errorf("%+v: %+v, then %+v", p, first, again)
			}
		}
	}
	// Many optima: always the same one.
	p := asks("1 1 1", "1 1 1 <= 1", "1 0 0 <= 1", "0 1 0 <= 1")
	first := wantOptimal(t, p, "1")
	for range 20 {
		if again := solved(t, p); !reflect.DeepEqual(again, first) {
			t.Errorf("%+v: %+v, then %+v", p, first, again)
		}
	}
}
