package cert_test

import (
	"math/big"
	"math/rand/v2"
	"regexp"
	"strconv"
	"testing"

	"noonbell/api"
	"noonbell/cert"
)

// The chapter by another way than the program's: by the library's fractions,
// each condition written out.

var fraction = regexp.MustCompile(`^(0|-?[1-9][0-9]*(/[1-9][0-9]*)?)$`)

// readOther answers the texts' numbers; nil and false, if one is none.
func readOther(texts []string) ([]*big.Rat, bool) {
	var l []*big.Rat
	for _, text := range texts {
		n, is := new(big.Rat).SetString(text)
		if !fraction.MatchString(text) || !is || n.RatString() != text {
			return nil, false
		}
		l = append(l, n)
	}
	return l, true
}

func checkOther(p cert.Problem) api.Errno {
	shape := len(p.Rows) == len(p.Rel) && len(p.Rel) == len(p.B)
	many := len(p.B) > 64 || len(p.C) > 64
	for _, l := range append([][]int{p.B, p.C}, p.Rows...) {
		for _, n := range l {
			many = many || n != max(-billion, min(n, billion))
		}
	}
	for i := range p.Rows {
		shape = shape && len(p.Rows[i]) == len(p.C)
	}
	if !shape {
		return api.ErrShape
	}
	if many {
		return api.ErrMany
	}
	return api.OK
}

// dot is the sum of products.
func dot(factors []int, l []*big.Rat) *big.Rat {
	all := new(big.Rat)
	for i, n := range l {
		all.Add(all, new(big.Rat).Mul(n, big.NewRat(int64(factors[i]), 1)))
	}
	return all
}

func worthOther(p cert.Problem, factors []int, texts []string) answer {
	if e := checkOther(p); e != api.OK {
		return answer{e: e}
	}
	if len(texts) != len(factors) {
		return answer{e: api.ErrShape}
	}
	l, is := readOther(texts)
	if !is {
		return answer{e: api.ErrText}
	}
	return answer{text: dot(factors, l).RatString()}
}

func feasibleOther(p cert.Problem, b []int, x []*big.Rat) bool {
	for _, n := range x {
		if n.Sign() < 0 {
			return false
		}
	}
	for i, rel := range p.Rel {
		gap := dot(p.Rows[i], x)
		gap.Sub(gap, big.NewRat(int64(b[i]), 1))
		if rel <= 0 && gap.Sign() > 0 || rel >= 0 && gap.Sign() < 0 {
			return false
		}
	}
	return true
}

func dualOther(p cert.Problem, c []int, y []*big.Rat) bool {
	sums := make([]*big.Rat, len(c))
	for j := range sums {
		sums[j] = big.NewRat(int64(-c[j]), 1)
	}
	for i, n := range y {
		if n.Sign() < 0 && p.Rel[i] < 0 || n.Sign() > 0 && p.Rel[i] > 0 {
			return false
		}
		for j, a := range p.Rows[i] {
			sums[j].Add(sums[j], new(big.Rat).Mul(n, big.NewRat(int64(a), 1)))
		}
	}
	for _, n := range sums {
		if n.Sign() < 0 {
			return false
		}
	}
	return true
}

// showOther is what all of them should tell.
func showOther(p cert.Problem, x, y, d []string) shown {
	ofX, ofY, ofD := worthOther(p, p.C, x), worthOther(p, p.B, y), worthOther(p, p.C, d)
	nx, _ := readOther(x)
	ny, _ := readOther(y)
	nd, _ := readOther(d)
	var s shown
	s.feasible = ofX.e == api.OK && feasibleOther(p, p.B, nx)
	s.dual = ofY.e == api.OK && dualOther(p, p.C, ny)
	s.optimal = s.feasible && s.dual && ofX == ofY
	s.farkas = ofY.e == api.OK && dualOther(p, make([]int, len(p.C)), ny) && dot(p.B, ny).Sign() < 0
	s.ray = s.feasible && ofD.e == api.OK && feasibleOther(p, make([]int, len(p.B)), nd) && dot(p.C, nd).Sign() > 0
	return s
}

// drawn is a source of problems and lists: the same ones each time.
type drawn struct{ *rand.Rand }

func draw(seed uint64) drawn { return drawn{rand.New(rand.NewPCG(seed, 11))} }

func (r drawn) ints(many, most int) []int {
	var l []int
	for range many {
		l = append(l, r.IntN(2*most+1)-most)
	}
	return l
}

// problem is of at most so many rows, and so many of C.
func (r drawn) problem(rows, columns, most int) cert.Problem {
	n, m := r.IntN(rows+1), r.IntN(columns+1)
	p := cert.Problem{Rel: r.ints(n, 2), B: r.ints(n, most), C: r.ints(m, most)}
	for range n {
		p.Rows = append(p.Rows, r.ints(m, most))
	}
	return p
}

// spoil makes some of the problems wrong ones.
func (r drawn) spoil(p *cert.Problem) {
	lists := []*[]int{&p.Rel, &p.B, &p.C}
	for i := range p.Rows {
		lists = append(lists, &p.Rows[i])
	}
	l := lists[r.IntN(len(lists))]
	switch {
	case r.IntN(2) == 0:
		*l = append(*l, 0)
	case len(*l) == 0:
	case r.IntN(2) == 0:
		*l = (*l)[1:]
	default:
		(*l)[r.IntN(len(*l))] = []int{billion + 1, -billion - 1, billion, -billion}[r.IntN(4)]
	}
}

// texts is a list of so many fractions, most of them at least 0.
func (r drawn) texts(many int) []string {
	pool := words("0 0 0 1 1 1 2 2 3 1/2 1/2 1/3 3/2 2/3 5/6 7/4 -1 -1 -2 -1/2 -1/3 1/1000000000000000000000")
	if r.IntN(20) == 0 {
		pool = append(pool, "x", "", "2/4", "-0", "3/1", "1/0")
	}
	if r.IntN(20) == 0 {
		many = max(0, many+r.IntN(3)-1)
	}
	var l []string
	for range many {
		l = append(l, pool[r.IntN(len(pool))])
	}
	return l
}

func wantModel(t *testing.T, p cert.Problem, x, y, d []string) shown {
	t.Helper()
	if got, want := cert.Check(p), checkOther(p); got != want {
		t.Errorf("Check of %+v: error %d, not %d", p, got, want)
	}
	wantValue(t, p, x, worthOther(p, p.C, x))
	wantBound(t, p, y, worthOther(p, p.B, y))
	got, want := showAll(p, x, y, d), showOther(p, x, y, d)
	if got != want {
		t.Errorf("%+v, %q, %q, %q: %+v, not %+v", p, x, y, d, got, want)
	}
	return got
}

func TestP111ToP113AsTheModel(t *testing.T) {
	r := draw(1)
	counts := map[string]int{}
	for range 60000 {
		p := r.problem(3, 3, 2)
		if r.IntN(10) == 0 {
			r.spoil(&p)
		}
		got := wantModel(t, p, r.texts(len(p.C)), r.texts(len(p.B)), r.texts(len(p.C)))
		for name, is := range map[string]bool{
			"feasible": got.feasible, "dual": got.dual, "optimal": got.optimal, "farkas": got.farkas, "ray": got.ray,
			"shape": cert.Check(p) == api.ErrShape, "many": cert.Check(p) == api.ErrMany,
		} {
			if is {
				counts[name]++
			}
		}
		if t.Failed() {
			return
		}
	}
	for _, name := range words("feasible dual optimal farkas ray shape many") {
		if counts[name] < 300 {
			t.Errorf("%s: drawn %d times alone", name, counts[name])
		}
	}
}

// long is a fraction whose denominator has little in common with others.
func (r drawn) long() string {
	bottom := big.NewInt(r.Int64())
	bottom.Mul(bottom, big.NewInt(r.Int64())).Add(bottom, big.NewInt(1))
	return new(big.Rat).SetFrac(big.NewInt(r.Int64()), bottom).RatString()
}

// wide is a problem of 64 rows and 64 of C, with at most alone; its rows are
// of the one sign.
func (r drawn) wide(sign int) cert.Problem {
	one := func() int { return sign * (1 + r.IntN(billion)) }
	p := blank(64, 64)
	for i := range 64 {
		p.Rel[i] = -1
		for j := range 64 {
			p.Rows[i][j] = one()
		}
		p.B[i], p.C[i] = -one(), -one()
	}
	return p
}

func TestP111ToP113AsTheModelAtTheLimits(t *testing.T) {
	r := draw(2)
	var l []string
	for range 64 {
		l = append(l, r.long())
	}
	// Rows below 0 let all rise; rows above 0, with a B below 0, let nothing
	// be.
	free, none := r.wide(-1), r.wide(1)
	if got := wantModel(t, free, l, l, l); got != (shown{feasible: true, ray: true}) {
		t.Errorf("free: %+v", got)
	}
	if got := wantModel(t, none, l, l, l); got != (shown{dual: true, farkas: true}) {
		t.Errorf("none: %+v", got)
	}
	// One place alone is off: a row must not be far below 0, nor a sum far
	// above it.
	free.B[63], none.C[63] = -billion, billion
	if got := showAll(free, l, l, l); got != (shown{}) {
		t.Errorf("free, a row off: %+v", got)
	}
	if got := showAll(none, l, l, l); got != (shown{farkas: true}) {
		t.Errorf("none, a sum off: %+v", got)
	}
}

// every answers all lists of so many of these texts.
func every(pool []string, many int) [][]string {
	lists := [][]string{nil}
	for range many {
		var longer [][]string
		for _, l := range lists {
			for _, text := range pool {
				longer = append(longer, append(append([]string{}, l...), text))
			}
		}
		lists = longer
	}
	return lists
}

func number(t *testing.T, a answer) *big.Rat {
	t.Helper()
	n, is := new(big.Rat).SetString(a.text)
	if !is || a.e != api.OK {
		t.Fatalf("no number: %v", a)
	}
	return n
}

// extremes are the greatest Value of the Feasible ones and the least Bound of
// the Dual ones; nil, if there are none.
func extremes(t *testing.T, p cert.Problem, xs, ys [][]string) (value, bound *big.Rat) {
	t.Helper()
	for _, x := range xs {
		if cert.Feasible(p, x) {
			if n := number(t, valueOf(p, x)); value == nil || n.Cmp(value) > 0 {
				value = n
			}
		}
	}
	for _, y := range ys {
		if cert.Dual(p, y) {
			if n := number(t, boundOf(p, y)); bound == nil || n.Cmp(bound) < 0 {
				bound = n
			}
		}
	}
	return value, bound
}

// along is x with d added so many times.
func along(x, d []string, times string) []string {
	nx, _ := readOther(x)
	nd, _ := readOther(d)
	k, _ := new(big.Rat).SetString(times)
	var l []string
	for i, n := range nx {
		l = append(l, new(big.Rat).Add(n, new(big.Rat).Mul(k, nd[i])).RatString())
	}
	return l
}

// wantRising holds that from x on along d all are Feasible, and of any Value
// above.
func wantRising(t *testing.T, p cert.Problem, x, d []string) {
	t.Helper()
	last := number(t, valueOf(p, x))
	for _, times := range []string{"1/3", "1", "7", "1000000000000000000000000"} {
		further := along(x, d, times)
		wantFeasible(t, p, further, true)
		value := number(t, valueOf(p, further))
		if value.Cmp(last) <= 0 {
			t.Errorf("%+v: the Value at %q is no more than %s", p, further, last)
		}
		last = value
	}
}

func TestP114WhatFollows(t *testing.T) {
	r := draw(3)
	both, same, none, rising := 0, 0, 0, 0
	for i := range 4000 {
		p := r.problem(2, 2, 3)
		xs := every(words("0 1/3 1/2 1 3/2 2 3"), len(p.C))
		ys := every(words("-3 -1 -1/2 0 1/3 1/2 1 2 3"), len(p.B))
		value, bound := extremes(t, p, xs, ys)
		if value != nil && bound != nil {
			both++
			if value.Cmp(bound) > 0 {
				t.Errorf("%+v: a Value of %s, above a Bound of %s", p, value, bound)
			}
			if value.Cmp(bound) == 0 {
				same++
			}
		}
		for _, y := range ys {
			if cert.Farkas(p, y) {
				none++
				if value != nil {
					t.Errorf("%+v: Farkas of %q, and something is Feasible", p, y)
				}
			}
		}
		for range 8 {
			x, d := xs[r.IntN(len(xs))], xs[r.IntN(len(xs))]
			if cert.Ray(p, x, d) {
				rising++
				wantRising(t, p, x, d)
				if bound != nil {
					t.Errorf("%+v: Ray of %q, %q, and something is Dual", p, x, d)
				}
			}
		}
		if t.Failed() {
			t.Fatal("problem " + strconv.Itoa(i))
		}
	}
	if both < 200 || same < 100 || none < 200 || rising < 200 {
		t.Errorf("too few were drawn: %d, %d, %d, %d", both, same, none, rising)
	}
}
