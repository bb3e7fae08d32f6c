package lp_test

import (
	"math/big"
	"math/rand/v2"
	"reflect"
	"slices"
	"testing"

	"noonbell/cert"
	"noonbell/lp"
)

// The chapter by another way than the program's: all corners are gone through,
// by the library's fractions.

// line is an equation, or, but for its sort, a row: its numbers, and what they
// come to.
type line struct {
	left  []int
	rel   int
	right int
}

// linesOf are the rows, that each variable is at least 0, and that all of them
// together are at most so much.
func linesOf(p cert.Problem, most int) []line {
	all := line{rel: -1, right: most}
	var l []line
	for i, row := range p.Rows {
		l = append(l, line{row, p.Rel[i], p.B[i]})
	}
	for j := range p.C {
		one := make([]int, len(p.C))
		one[j] = 1
		l, all.left = append(l, line{one, 1, 0}), append(all.left, 1)
	}
	return append(l, all)
}

func ratOf(n int) *big.Rat { return big.NewRat(int64(n), 1) }

func dot(factors []int, x []*big.Rat) *big.Rat {
	sum := new(big.Rat)
	for j, n := range factors {
		sum.Add(sum, new(big.Rat).Mul(ratOf(n), x[j]))
	}
	return sum
}

func (l line) holds(x []*big.Rat) bool {
	sign := dot(l.left, x).Cmp(ratOf(l.right))
	return l.rel < 0 && sign <= 0 || l.rel == 0 && sign == 0 || l.rel > 0 && sign >= 0
}

// meet is the point where as many lines as there are variables meet, if there
// is just one.
func meet(lines []line) ([]*big.Rat, bool) {
	n := len(lines)
	var rows [][]*big.Rat
	for _, l := range lines {
		var row []*big.Rat
		for _, k := range l.left {
			row = append(row, ratOf(k))
		}
		rows = append(rows, append(row, ratOf(l.right)))
	}
	for j := range n {
		i := slices.IndexFunc(rows[j:], func(row []*big.Rat) bool { return row[j].Sign() != 0 })
		if i < 0 {
			return nil, false
		}
		rows[j], rows[j+i] = rows[j+i], rows[j]
		by := new(big.Rat).Inv(rows[j][j])
		for k := range rows[j] {
			rows[j][k] = new(big.Rat).Mul(rows[j][k], by)
		}
		for i := range rows {
			times := rows[i][j]
			for k := range rows[i] {
				if i != j {
					part := new(big.Rat).Mul(times, rows[j][k])
					rows[i][k] = part.Sub(rows[i][k], part)
				}
			}
		}
	}
	var x []*big.Rat
	for _, row := range rows {
		x = append(x, row[n])
	}
	return x, true
}

// choices are all ways to take so many of the lines.
func choices(l []line, many int) [][]line {
	if many == 0 {
		return [][]line{nil}
	}
	if len(l) < many {
		return nil
	}
	out := choices(l[1:], many)
	for _, rest := range choices(l[1:], many-1) {
		out = append(out, append([]line{l[0]}, rest...))
	}
	return out
}

// greatest is the greatest value of all corners; nil, if nothing is feasible.
func greatest(p cert.Problem, most int) *big.Rat {
	lines := linesOf(p, most)
	var value *big.Rat
	for _, corner := range choices(lines, len(p.C)) {
		x, ok := meet(corner)
		if !ok || slices.ContainsFunc(lines, func(l line) bool { return !l.holds(x) }) {
			continue
		}
		if v := dot(p.C, x); value == nil || v.Cmp(value) > 0 {
			value = v
		}
	}
	return value
}

// kindOther is the kind, and the value of an optimum. With numbers as small as
// here no corner is as far away as the first bound: what is greater at the
// second one has none.
func kindOther(p cert.Problem) (int, string) {
	near, far := greatest(p, 1000000), greatest(p, 2000000)
	switch {
	case near == nil:
		return lp.Infeasible, ""
	case near.Cmp(far) < 0:
		return lp.Unbounded, ""
	}
	return lp.Optimal, near.RatString()
}

// drawn is a source of problems: the same ones each time.
type drawn struct{ *rand.Rand }

func draw(seed uint64) drawn { return drawn{rand.New(rand.NewPCG(seed, 13))} }

// ints are so many, no further from 0 than most, every so often one of 0.
func (r drawn) ints(many, most, often int) []int {
	l := []int{}
	for range many {
		n := r.IntN(2*most+1) - most
		if r.IntN(often) == 0 {
			n = 0
		}
		l = append(l, n)
	}
	return l
}

func (r drawn) problem(rows, columns, most, often int) cert.Problem {
	p := cert.Problem{Rel: r.ints(rows, 1, 1000), B: r.ints(rows, most, often), C: r.ints(columns, most, 9)}
	for range rows {
		p.Rows = append(p.Rows, r.ints(columns, most, often))
	}
	return p
}

// repeat makes some row tell what another one does, so many times.
func (r drawn) repeat(p cert.Problem) {
	from, to, times := r.IntN(len(p.Rows)), r.IntN(len(p.Rows)), r.IntN(5)-2
	for j := range p.C {
		p.Rows[to][j] = times * p.Rows[from][j]
	}
	p.B[to], p.Rel[to] = times*p.B[from], p.Rel[from]
	if times < 0 {
		p.Rel[to] = -p.Rel[from]
	}
}

func TestP131AsTheModel(t *testing.T) {
	r := draw(1)
	counts := map[int]int{}
	for range 5000 {
		p := r.problem(r.IntN(5), r.IntN(4), []int{1, 2, 5, 9}[r.IntN(4)], 1+r.IntN(5))
		if len(p.Rows) > 1 && r.IntN(3) == 0 {
			r.repeat(p)
		}
		kind, value := kindOther(p)
		if s := wantKind(t, p, kind); s.Value != value {
			t.Errorf("%+v: value %s, not %s", p, s.Value, value)
		}
		if t.Failed() {
			t.FailNow()
		}
		counts[kind]++
	}
	for kind := 1; kind <= 3; kind++ {
		if counts[kind] < 200 {
			t.Errorf("kind %d: drawn %d times alone", kind, counts[kind])
		}
	}
}

// meetAt makes the problem one that some point of small numbers fulfils, with
// every so often a row that it just meets.
func (r drawn) meetAt(p cert.Problem, most int) {
	x := make([]int, len(p.C))
	for j := range x {
		x[j] = r.IntN(3)
	}
	for i, row := range p.Rows {
		p.B[i] = 0
		for j, n := range row {
			p.B[i] += n * x[j]
		}
		if r.IntN(2) == 0 {
			p.B[i] -= p.Rel[i] * r.IntN(most)
		}
		// What is met stays so, while the row's sum is no further from 0.
		p.B[i] = max(-billion, min(billion, p.B[i]))
	}
}

func TestP131Greater(t *testing.T) {
	// Here the kind is known by what shows it alone.
	r := draw(2)
	counts := map[int]int{}
	for range 150 {
		most := []int{1, 9, 1000, billion / 100}[r.IntN(4)]
		p := r.problem(1+r.IntN(15), 1+r.IntN(15), most, 1+r.IntN(5))
		if r.IntN(2) > 0 {
			r.meetAt(p, most)
		}
		if len(p.Rows) > 1 && r.IntN(3) == 0 && most < billion/100 {
			r.repeat(p)
		}
		s := solved(t, p)
		counts[s.Kind]++
		if again := solved(t, clone(p)); !reflect.DeepEqual(again, s) {
			t.Fatalf("%+v: %+v, then %+v", p, s, again)
		}
	}
	for kind := 1; kind <= 3; kind++ {
		if counts[kind] < 20 {
			t.Errorf("kind %d: drawn %d times alone", kind, counts[kind])
		}
	}
}

func TestP131AtTheLimits(t *testing.T) {
	r := draw(3)
	for _, size := range [][2]int{{60, 60}, {60, 1}, {1, 60}, {0, 60}, {60, 0}, {60, 20}, {20, 60}} {
		for _, most := range []int{1, billion / 6} {
			p := r.problem(size[0], size[1], most, 1)
			// A few in each row.
			for _, row := range p.Rows {
				for range 3 {
					if len(row) > 0 {
						row[r.IntN(len(row))] = r.IntN(2*most+1) - most
					}
				}
			}
			r.meetAt(p, most)
			solved(t, p)
			for j := range p.C {
				p.C[j] = min(p.C[j], -p.C[j])
			}
			wantKind(t, p, lp.Optimal)
			if size[0] == 0 {
				continue
			}
			p.Rel[size[0]-1], p.B[size[0]-1] = -1, -1
			for j := range p.C {
				p.Rows[size[0]-1][j] = max(0, p.Rows[size[0]-1][j])
			}
			wantKind(t, p, lp.Infeasible)
		}
	}
}

func TestP131LimitsByHand(t *testing.T) {
	// Of each variable at most as much as its number, and all rows and columns
	// count.
	p := blank(60, 60)
	sum := 0
	for i := range 60 {
		p.Rows[i][i], p.Rel[i], p.B[i], p.C[i] = 1, -1, i+1, 1
		sum += i + 1
	}
	s := wantOptimal(t, p, big.NewInt(int64(sum)).String())
	if s.X[0] != "1" || s.X[59] != "60" || s.Y[0] != "1" || s.Y[59] != "1" {
		t.Errorf("%+v", s)
	}
	// The last one has no bound.
	p.Rel[59] = 1
	wantKind(t, p, lp.Unbounded)
	// The last row is never met.
	p.Rel[59], p.B[59] = -1, -1
	wantKind(t, p, lp.Infeasible)
	// Each is as much as the one ahead and 1 more.
	for i := 1; i < 60; i++ {
		p.Rows[i][i-1], p.Rel[i], p.B[i], p.C[i-1] = -1, 0, 1, 0
	}
	wantOptimal(t, p, "60")
	// Each is half of the one ahead.
	for i := 1; i < 60; i++ {
		p.Rows[i][i], p.B[i] = 2, 0
	}
	wantOptimal(t, p, "1/576460752303423488")
}

// everyProblem calls with all problems of so many rows and two of C, with
// numbers from -1 to 1.
func everyProblem(rows int, call func(p cert.Problem)) {
	var fill func(p cert.Problem, lists [][]int)
	fill = func(p cert.Problem, lists [][]int) {
		switch {
		case len(lists) == 0:
			call(p)
		case len(lists[0]) == 0:
			fill(p, lists[1:])
		default:
			for n := -1; n <= 1; n++ {
				lists[0][0] = n
				fill(p, append([][]int{lists[0][1:]}, lists[1:]...))
			}
		}
	}
	p := blank(rows, 2)
	fill(p, append([][]int{p.Rel, p.B, p.C}, p.Rows...))
}

func TestP131EveryOneOfOneRow(t *testing.T) {
	counts := map[int]int{}
	everyProblem(1, func(p cert.Problem) {
		kind, value := kindOther(p)
		counts[kind]++
		if s := wantKind(t, p, kind); s.Value != value {
			t.Errorf("%+v: value %s, not %s", p, s.Value, value)
		}
	})
	if counts[1]+counts[2]+counts[3] != 729 {
		t.Error(counts)
	}
}

func TestP132OneAlwaysHolds(t *testing.T) {
	// What shows one of the kinds shows no other one, of the same lists or of
	// others.
	r := draw(4)
	pool := lists(2)
	for range 60 {
		p := r.problem(2, 2, 2, 4)
		s := solved(t, p)
		optimal, farkas, ray := s.Kind == lp.Optimal, s.Kind == lp.Infeasible, s.Kind == lp.Unbounded
		for _, a := range pool {
			farkas = farkas || cert.Farkas(p, a)
			if !cert.Feasible(p, a) {
				continue
			}
			for _, b := range pool {
				optimal = optimal || cert.Optimal(p, a, b)
				ray = ray || cert.Ray(p, a, b)
			}
		}
		if optimal != (s.Kind == lp.Optimal) || farkas != (s.Kind == lp.Infeasible) || ray != (s.Kind == lp.Unbounded) {
			t.Errorf("%+v: %+v; %v, %v, %v", p, s, optimal, farkas, ray)
		}
	}
}
