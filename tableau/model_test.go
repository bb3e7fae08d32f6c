package tableau_test

import (
	"math/big"
	"math/rand/v2"
	"reflect"
	"slices"
	"strings"
	"testing"

	"noonbell/api"
	"noonbell/tableau"
)

// The chapter by another way than the program's: by the library's fractions,
// each number by itself.
type model struct {
	rows  [][]*big.Rat
	basis []int
}

func modelOf(rows [][]int, basis []int) *model {
	m := &model{basis: append([]int{}, basis...)}
	for _, row := range rows {
		l := []*big.Rat{}
		for _, n := range row {
			l = append(l, big.NewRat(int64(n), 1))
		}
		m.rows = append(m.rows, l)
	}
	return m
}

func (m *model) pivot(row, column int) api.Errno {
	if row < 0 || row >= len(m.rows) || column < 0 || column >= len(m.rows[row]) {
		return api.ErrArg
	}
	by := m.rows[row][column]
	if by.Sign() == 0 {
		return api.ErrZero
	}
	next := make([][]*big.Rat, len(m.rows))
	for j := range m.rows[row] {
		next[row] = append(next[row], new(big.Rat).Quo(m.rows[row][j], by))
	}
	for i, l := range m.rows {
		for j := range l {
			if i != row {
				part := new(big.Rat).Mul(next[row][j], l[column])
				next[i] = append(next[i], part.Sub(l[j], part))
			}
		}
	}
	m.rows, m.basis[row] = next, column
	return api.OK
}

func (m *model) state() state {
	s := state{basis: slices.Clone(m.basis), rows: len(m.rows)}
	for _, row := range m.rows {
		var l []string
		for _, n := range row {
			l = append(l, n.RatString())
		}
		s.texts, s.columns = append(s.texts, strings.Join(l, " ")), len(row)
	}
	return s
}

// drawn is a source of rows: the same ones each time.
type drawn struct{ *rand.Rand }

func draw(seed uint64) drawn { return drawn{rand.New(rand.NewPCG(seed, 12))} }

// numbers are so many, no further from 0 than most, every so often one of 0.
func (r drawn) numbers(many, most, often int) []int {
	l := []int{}
	for range many {
		n := r.IntN(2*most+1) - most
		if r.IntN(often) == 0 {
			n = 0
		}
		l = append(l, n)
	}
	return l
}

func (r drawn) rows(many, columns, most, often int) [][]int {
	l := [][]int{}
	for range many {
		l = append(l, r.numbers(columns, most, often))
	}
	return l
}

func (r drawn) basis(rows, columns int) []int {
	l := []int{}
	for range rows {
		l = append(l, r.IntN(columns))
	}
	return l
}

// wantColumn holds that the column has 1 in the row and 0 elsewhere.
func wantColumn(t *testing.T, x *tableau.Tableau, row, column int) {
	t.Helper()
	for i := range x.Rows() {
		want := "0"
		if i == row {
			want = "1"
		}
		if got := x.At(i, column); got != want {
			t.Errorf("behind Pivot(%d, %d): At(%d, %d) is %s", row, column, i, column, got)
		}
	}
}

func TestP121ToP124AsTheModel(t *testing.T) {
	r := draw(1)
	counts := map[api.Errno]int{}
	for range 3000 {
		n, m := 1+r.IntN(5), 1+r.IntN(6)
		rows := r.rows(n, m, []int{1, 3, 12, billion}[r.IntN(4)], 1+r.IntN(4))
		basis := r.basis(n, m)
		x, other := made(t, rows, basis...), modelOf(rows, basis)
		wantSame(t, x, other.state())
		for range 8 {
			row, column := r.IntN(n+1), r.IntN(m+1)
			if r.IntN(20) == 0 {
				row = -1
			}
			if r.IntN(20) == 0 {
				column = -1
			}
			e := other.pivot(row, column)
			counts[e]++
			wantPivot(t, x, row, column, e)
			wantSame(t, x, other.state())
			if e == api.OK {
				wantColumn(t, x, row, column)
			}
		}
		if t.Failed() {
			t.Fatalf("rows %v", rows)
		}
	}
	for _, e := range []api.Errno{api.OK, api.ErrArg, api.ErrZero} {
		if counts[e] < 1000 {
			t.Errorf("error %d: drawn %d times alone", e, counts[e])
		}
	}
}

func TestP122AsTheModelAtTheLimits(t *testing.T) {
	r := draw(2)
	rows, basis := r.rows(64, 192, billion, 10), r.basis(64, 192)
	rows[0][0], rows[63][191] = -billion, billion
	x, other := made(t, rows, basis...), modelOf(rows, basis)
	wantSame(t, x, other.state())
	for _, at := range [][2]int{{0, 0}, {63, 191}, {31, 7}, {64, 0}, {0, 192}, {0, 100}, {1, 190}} {
		e := other.pivot(at[0], at[1])
		wantPivot(t, x, at[0], at[1], e)
		if e == api.OK {
			wantColumn(t, x, at[0], at[1])
		}
	}
	wantSame(t, x, other.state())
}

func TestP122AsTheModelManyTimes(t *testing.T) {
	// From one basis to the next, numbers grow and become small again.
	r := draw(3)
	rows, basis := r.rows(9, 12, billion, 5), r.basis(9, 12)
	x, other := made(t, rows, basis...), modelOf(rows, basis)
	done := 0
	for range 150 {
		row, column := r.IntN(9), r.IntN(12)
		e := other.pivot(row, column)
		wantPivot(t, x, row, column, e)
		wantSame(t, x, other.state())
		if e == api.OK {
			done++
		}
	}
	if done < 50 {
		t.Errorf("%d Pivots alone", done)
	}
}

// isMadeZero tells whether every row makes the list 0.
func isMadeZero(t *testing.T, x *tableau.Tableau, list []int) bool {
	t.Helper()
	is := true
	for i := range x.Rows() {
		sum := new(big.Rat)
		for j, k := range list {
			n, ok := new(big.Rat).SetString(x.At(i, j))
			if !ok {
				t.Fatalf("At(%d, %d): %q", i, j, x.At(i, j))
			}
			sum.Add(sum, n.Mul(n, big.NewRat(int64(k), 1)))
		}
		is = is && sum.Sign() == 0
	}
	return is
}

// every answers all lists of so many of -2 to 2.
func every(many int) [][]int {
	lists := [][]int{nil}
	for range many {
		var longer [][]int
		for _, l := range lists {
			for n := -2; n <= 2; n++ {
				longer = append(longer, append(slices.Clone(l), n))
			}
		}
		lists = longer
	}
	return lists
}

// madeZero are those of the lists that every row makes 0.
func madeZero(t *testing.T, x *tableau.Tableau, lists [][]int) [][]int {
	var l [][]int
	for _, list := range lists {
		if isMadeZero(t, x, list) {
			l = append(l, list)
		}
	}
	return l
}

func TestP124SameLists(t *testing.T) {
	r := draw(4)
	some, pivots := 0, 0
	for range 150 {
		n, m := 1+r.IntN(3), 1+r.IntN(4)
		rows := r.rows(n, m, 2, 4)
		lists := every(m)
		x := made(t, rows, r.basis(n, m)...)
		was := madeZero(t, x, lists)
		if len(was) > 1 {
			some++
		}
		for range 4 {
			row, column := r.IntN(n), r.IntN(m)
			if x.Pivot(row, column) != api.OK {
				continue
			}
			pivots++
			wantColumn(t, x, row, column)
			if now := madeZero(t, x, lists); !reflect.DeepEqual(now, was) {
				t.Fatalf("rows %v, behind Pivot(%d, %d): %v, not %v", rows, row, column, now, was)
			}
		}
	}
	if some < 50 || pivots < 200 {
		t.Errorf("too few were drawn: %d, %d", some, pivots)
	}
}

func TestP124GreatLists(t *testing.T) {
	r := draw(5)
	for range 20 {
		// In each row the last number is what the others come to, each times
		// its column.
		list := append(r.numbers(9, 1000, 4), -1)
		rows := r.rows(6, 10, 1000, 4)
		for j := range 9 {
			// Else a column may be 0 everywhere, and its number does not count.
			rows[0][j] = max(1, rows[0][j])
		}
		for _, row := range rows {
			row[9] = 0
			for j := range 9 {
				row[9] += row[j] * list[j]
			}
		}
		x := made(t, rows, make([]int, 6)...)
		for i := range 7 {
			if !isMadeZero(t, x, list) {
				t.Fatalf("rows %v, behind %d Pivots: %v is not made 0", rows, i, list)
			}
			// All that are off in one place.
			for j := range list {
				off := slices.Clone(list)
				off[j]++
				if isMadeZero(t, x, off) {
					t.Fatalf("rows %v, behind %d Pivots: %v is made 0", rows, i, off)
				}
			}
			if i < 6 {
				wantPivot(t, x, i, firstOther(x, i), api.OK)
			}
		}
	}
}

// firstOther is the first column where the row is not 0.
func firstOther(x *tableau.Tableau, row int) int {
	for j := range x.Columns() {
		if x.At(row, j) != "0" {
			return j
		}
	}
	return -1
}
