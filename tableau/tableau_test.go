package tableau_test

import (
	"math"
	"reflect"
	"slices"
	"strings"
	"testing"

	"noonbell/api"
	"noonbell/tableau"
)

const billion = 1000000000

// beside are numbers that are no row's or column's of so many.
func beside(many int) []int {
	return []int{-1, -2, -many, many, many + 1, many + 200, math.MinInt, math.MaxInt, -1 << 32, 1 << 32}
}

// blank is so many rows of so many 0.
func blank(rows, columns int) [][]int {
	l := [][]int{}
	for range rows {
		l = append(l, make([]int, columns))
	}
	return l
}

func made(t *testing.T, rows [][]int, basis ...int) *tableau.Tableau {
	t.Helper()
	x, e := tableau.New(rows, basis)
	if e != api.OK || x == nil {
		t.Fatalf("New of %v, %v: error %d", rows, basis, e)
	}
	return x
}

func wantNew(t *testing.T, rows [][]int, basis []int, want api.Errno) {
	t.Helper()
	x, e := tableau.New(rows, basis)
	if e != want {
		t.Errorf("New of %d rows, %v with basis %v: error %d, not %d", len(rows), rows, basis, e, want)
	}
	if (x == nil) != (e != api.OK) {
		t.Errorf("New of %d rows with basis %v: error %d, and %v", len(rows), basis, e, x)
	}
}

func wantPivot(t *testing.T, x *tableau.Tableau, row, column int, want api.Errno) {
	t.Helper()
	if e := x.Pivot(row, column); e != want {
		t.Fatalf("Pivot(%d, %d): error %d, not %d", row, column, e, want)
	}
}

func wantBasis(t *testing.T, x *tableau.Tableau, want ...int) {
	t.Helper()
	if got := x.Basis(); !slices.Equal(got, want) {
		t.Errorf("Basis: %v, not %v", got, want)
	}
}

// state is all that a tableau tells, but for where nothing is.
type state struct {
	texts         []string
	basis         []int
	rows, columns int
}

func stateOf(x *tableau.Tableau) state {
	s := state{rows: x.Rows(), columns: x.Columns(), basis: append([]int{}, x.Basis()...)}
	for i := range s.rows {
		var l []string
		for j := range s.columns {
			l = append(l, x.At(i, j))
		}
		s.texts = append(s.texts, strings.Join(l, " "))
	}
	return s
}

// wantRows holds what stands in each row.
func wantRows(t *testing.T, x *tableau.Tableau, want ...string) {
	t.Helper()
	if got := stateOf(x).texts; !slices.Equal(got, want) {
		t.Errorf("rows %q, not %q", got, want)
	}
	if x.Rows() != len(want) {
		t.Errorf("Rows: %d, not %d", x.Rows(), len(want))
	}
}

// wantSame holds that nothing is told otherwise than it was.
func wantSame(t *testing.T, x *tableau.Tableau, was state) {
	t.Helper()
	if now := stateOf(x); !reflect.DeepEqual(now, was) {
		t.Errorf("now %+v, not %+v", now, was)
	}
}

func TestP12Examples(t *testing.T) {
	x := made(t, [][]int{{2, 4, 6}, {1, 0, 1}}, 0, 1)
	wantPivot(t, x, 0, 1, api.OK)
	wantRows(t, x, "1/2 1 3/2", "1 0 1")
	wantBasis(t, x, 1, 1)
	wantPivot(t, x, 1, 1, api.ErrZero)
	wantRows(t, x, "1/2 1 3/2", "1 0 1")
	wantBasis(t, x, 1, 1)
}

func TestP121Numbers(t *testing.T) {
	x := made(t, [][]int{{0, -1, 7}, {billion, -billion, 12}}, 2, 0)
	wantRows(t, x, "0 -1 7", "1000000000 -1000000000 12")
	wantBasis(t, x, 2, 0)
	if x.Rows() != 2 || x.Columns() != 3 {
		t.Errorf("%d rows, %d columns", x.Rows(), x.Columns())
	}
	x = made(t, [][]int{{4}, {6}, {0}}, 0, 0, 0)
	wantRows(t, x, "4", "6", "0")
	wantBasis(t, x, 0, 0, 0)
	if x.Rows() != 3 || x.Columns() != 1 {
		t.Errorf("%d rows, %d columns", x.Rows(), x.Columns())
	}
}

func TestP121Shape(t *testing.T) {
	for _, c := range []struct {
		rows  [][]int
		basis []int
	}{
		{nil, []int{0}},
		{[][]int{}, []int{0, 0}},
		{[][]int{{1}}, nil},
		{[][]int{{1}}, []int{}},
		{[][]int{{1}}, []int{0, 0}},
		{[][]int{{1, 2}, {3, 4}}, []int{0}},
		{[][]int{{1, 2}, {3, 4}}, []int{0, 1, 0}},
		{[][]int{{1, 2}, {3}}, []int{0, 0}},
		{[][]int{{1}, {2, 3}}, []int{0, 0}},
		{[][]int{{1, 2}, {3, 4}, {5}}, []int{0, 0, 0}},
		{[][]int{{1, 2}, {3, 4}, {5, 6, 7}}, []int{0, 0, 0}},
		{[][]int{{1, 2}, {3}, {5, 6}}, []int{0, 0, 0}},
		{[][]int{{1, 2}, {3}, {4, 5, 6}}, []int{0, 0, 0}},
		{[][]int{nil, {1}}, []int{0, 0}},
		{[][]int{{1}, nil}, []int{0, 0}},
		{[][]int{{1}, {}}, []int{0, 0}},
		{[][]int{{}}, nil},
		{[][]int{nil, nil}, []int{0}},
	} {
		wantNew(t, c.rows, c.basis, api.ErrShape)
	}
}

func TestP121NoRows(t *testing.T) {
	for _, rows := range [][][]int{nil, {}} {
		for _, basis := range [][]int{nil, {}} {
			x := made(t, rows, basis...)
			for range 2 {
				if x.Rows() != 0 || x.Columns() != 0 || len(x.Basis()) != 0 {
					t.Errorf("%d rows, %d columns, basis %v", x.Rows(), x.Columns(), x.Basis())
				}
				for _, i := range append(beside(0), 0, 1) {
					for _, j := range append(beside(0), 0, 1) {
						if got := x.At(i, j); got != "" {
							t.Errorf("At(%d, %d): %q", i, j, got)
						}
						wantPivot(t, x, i, j, api.ErrArg)
					}
				}
			}
		}
	}
}

func TestP121NoLength(t *testing.T) {
	// There is no column that could be the basis.
	for _, rows := range [][][]int{{nil}, {{}}, {nil, {}}, blank(64, 0)} {
		for _, column := range []int{0, -1, 1, 191, math.MinInt, math.MaxInt} {
			wantNew(t, rows, slices.Repeat([]int{column}, len(rows)), api.ErrArg)
		}
		wantNew(t, rows, make([]int, len(rows)+1), api.ErrShape)
	}
	wantNew(t, blank(65, 0), make([]int, 65), api.ErrMany)
}

func TestP121Many(t *testing.T) {
	for _, n := range []int{1, 2, 63, 64} {
		for _, m := range []int{1, 2, 64, 65, 191, 192} {
			wantNew(t, blank(n, m), make([]int, n), api.OK)
			x := made(t, blank(n, m), slices.Repeat([]int{m - 1}, n)...)
			if x.Rows() != n || x.Columns() != m {
				t.Errorf("%d rows, %d columns, not %d, %d", x.Rows(), x.Columns(), n, m)
			}
		}
		for _, m := range []int{193, 194, 1000} {
			wantNew(t, blank(n, m), make([]int, n), api.ErrMany)
		}
	}
	for _, n := range []int{65, 66, 192, 1000} {
		for _, m := range []int{1, 64, 192, 193} {
			wantNew(t, blank(n, m), make([]int, n), api.ErrMany)
		}
	}
}

func TestP121Size(t *testing.T) {
	for i := range 3 {
		for j := range 4 {
			for _, n := range []int{0, 1, -1, billion - 1, billion, 1 - billion, -billion} {
				rows := blank(3, 4)
				rows[i][j] = n
				wantNew(t, rows, []int{0, 1, 2}, api.OK)
			}
			for _, n := range []int{billion + 1, -billion - 1, 2 * billion, math.MaxInt, math.MinInt} {
				rows := blank(3, 4)
				rows[i][j] = n
				wantNew(t, rows, []int{0, 1, 2}, api.ErrMany)
			}
		}
	}
	rows := blank(64, 192)
	rows[63][191] = billion
	wantNew(t, rows, make([]int, 64), api.OK)
	rows[63][191] = -billion - 1
	wantNew(t, rows, make([]int, 64), api.ErrMany)
}

func TestP121Basis(t *testing.T) {
	for _, m := range []int{1, 2, 5, 192} {
		for i := range 3 {
			for _, column := range []int{0, m / 2, m - 1} {
				basis := make([]int, 3)
				basis[i] = column
				wantNew(t, blank(3, m), basis, api.OK)
			}
			for _, column := range beside(m) {
				basis := make([]int, 3)
				basis[i] = column
				wantNew(t, blank(3, m), basis, api.ErrArg)
			}
		}
	}
	// Nothing more is asked: the same column twice, one of 0, one that is not
	// 1 in its row and 0 elsewhere.
	x := made(t, [][]int{{0, 5}, {0, 7}}, 0, 0)
	wantBasis(t, x, 0, 0)
	wantRows(t, x, "0 5", "0 7")
	x = made(t, [][]int{{0, 5}, {0, 7}}, 1, 1)
	wantBasis(t, x, 1, 1)
	wantRows(t, x, "0 5", "0 7")
}

func TestP121FirstError(t *testing.T) {
	// Lists of other lengths ahead of what is too many.
	wantNew(t, blank(65, 1), make([]int, 64), api.ErrShape)
	wantNew(t, blank(65, 1), make([]int, 66), api.ErrShape)
	wantNew(t, blank(65, 1), nil, api.ErrShape)
	wantNew(t, append(blank(64, 193), make([]int, 192)), make([]int, 65), api.ErrShape)
	wantNew(t, append(blank(1, 193), make([]int, 192)), make([]int, 2), api.ErrShape)
	wantNew(t, append(blank(1, 192), make([]int, 193)), make([]int, 2), api.ErrShape)
	wantNew(t, blank(2, 193), make([]int, 1), api.ErrShape)
	wantNew(t, [][]int{{billion + 1, 0}, {0}}, []int{0, 0}, api.ErrShape)
	wantNew(t, [][]int{{0}, {0, -billion - 1}}, []int{0, 0}, api.ErrShape)
	wantNew(t, [][]int{{billion + 1}}, nil, api.ErrShape)
	// And ahead of a basis that is no column.
	wantNew(t, [][]int{{0}, {0, 0}}, []int{-1, 2}, api.ErrShape)
	wantNew(t, [][]int{{0}}, []int{1, 1}, api.ErrShape)
	wantNew(t, nil, []int{-1}, api.ErrShape)
	// What is too many ahead of a basis that is no column.
	for _, column := range []int{-1, 193, math.MaxInt} {
		wantNew(t, blank(65, 1), slices.Repeat([]int{column}, 65), api.ErrMany)
		wantNew(t, blank(1, 193), []int{column}, api.ErrMany)
		wantNew(t, [][]int{{0}, {billion + 1}}, []int{column, 0}, api.ErrMany)
		wantNew(t, [][]int{{-billion - 1}, {0}}, []int{0, column}, api.ErrMany)
	}
	// All three.
	wantNew(t, append(blank(65, 193), []int{billion + 1}), []int{-1}, api.ErrShape)
}

func TestP122Refused(t *testing.T) {
	x := made(t, [][]int{{2, 0, 3, 1, 4}, {0, 5, 6, -1, 0}, {7, 0, 0, 0, 8}}, 3, 1, 0)
	for range 2 {
		was := stateOf(x)
		for _, i := range beside(3) {
			for j := range 5 {
				wantPivot(t, x, i, j, api.ErrArg)
			}
			for _, j := range beside(5) {
				wantPivot(t, x, i, j, api.ErrArg)
			}
		}
		for i := range 3 {
			for _, j := range beside(5) {
				wantPivot(t, x, i, j, api.ErrArg)
			}
		}
		// A row's number that there is a column of, but no row.
		wantPivot(t, x, 3, 2, api.ErrArg)
		wantPivot(t, x, 4, 0, api.ErrArg)
		wantSame(t, x, was)
		for i := range 3 {
			for j := range 5 {
				if x.At(i, j) == "0" {
					wantPivot(t, x, i, j, api.ErrZero)
				}
			}
		}
		wantSame(t, x, was)
		// The second time, on fractions.
		wantPivot(t, x, 0, 2, api.OK)
		wantRows(t, x, "2/3 0 1 1/3 4/3", "-4 5 0 -3 -8", "7 0 0 0 8")
		wantBasis(t, x, 2, 1, 0)
	}
}

func TestP122Ordinary(t *testing.T) {
	// x + y = 4, x - y = 2.
	x := made(t, [][]int{{1, 1, 4}, {1, -1, 2}}, 0, 0)
	wantPivot(t, x, 0, 0, api.OK)
	wantRows(t, x, "1 1 4", "0 -2 -2")
	wantBasis(t, x, 0, 0)
	wantPivot(t, x, 1, 1, api.OK)
	wantRows(t, x, "1 0 3", "0 1 1")
	wantBasis(t, x, 0, 1)
	// The last column, and back.
	wantPivot(t, x, 0, 2, api.OK)
	wantRows(t, x, "1/3 0 1", "-1/3 1 0")
	wantBasis(t, x, 2, 1)
	wantPivot(t, x, 1, 2, api.ErrZero)
	wantPivot(t, x, 1, 0, api.OK)
	wantRows(t, x, "0 1 1", "1 -3 0")
	wantBasis(t, x, 2, 0)
	wantPivot(t, x, 0, 0, api.ErrZero)
}

func TestP122Below(t *testing.T) {
	x := made(t, [][]int{{-2, 3, -5}, {4, -6, 7}, {-1, -1, -1}}, 1, 2, 0)
	wantPivot(t, x, 0, 0, api.OK)
	wantRows(t, x, "1 -3/2 5/2", "0 0 -3", "0 -5/2 3/2")
	wantBasis(t, x, 0, 2, 0)
	wantPivot(t, x, 2, 1, api.OK)
	wantRows(t, x, "1 0 8/5", "0 0 -3", "0 1 -3/5")
	wantBasis(t, x, 0, 2, 1)
	wantPivot(t, x, 1, 1, api.ErrZero)
	wantPivot(t, x, 1, 2, api.OK)
	wantRows(t, x, "1 0 0", "0 0 1", "0 1 0")
	wantBasis(t, x, 0, 2, 1)
}

func TestP122Fractions(t *testing.T) {
	x := made(t, [][]int{{6, 10, 15}, {4, 0, 9}, {0, 25, 3}}, 0, 0, 0)
	wantPivot(t, x, 0, 0, api.OK)
	wantRows(t, x, "1 5/3 5/2", "0 -20/3 -1", "0 25 3")
	wantPivot(t, x, 1, 1, api.OK)
	wantRows(t, x, "1 0 9/4", "0 1 3/20", "0 0 -3/4")
	wantPivot(t, x, 0, 2, api.OK)
	wantRows(t, x, "4/9 0 1", "-1/15 1 0", "1/3 0 0")
	wantBasis(t, x, 2, 1, 0)
	wantPivot(t, x, 1, 0, api.OK)
	wantRows(t, x, "0 20/3 1", "1 -15 0", "0 5 0")
	wantBasis(t, x, 2, 0, 0)
}

func TestP122Twice(t *testing.T) {
	x := made(t, [][]int{{-3, 2, 7}, {6, 5, 0}, {0, 1, 1}}, 1, 1, 1)
	for _, at := range [][2]int{{0, 0}, {1, 1}, {2, 2}, {0, 2}} {
		if x.At(at[0], at[1]) == "0" {
			wantPivot(t, x, at[0], at[1], api.ErrZero)
			continue
		}
		wantPivot(t, x, at[0], at[1], api.OK)
		was := stateOf(x)
		for range 2 {
			wantPivot(t, x, at[0], at[1], api.OK)
			wantSame(t, x, was)
		}
	}
}

func TestP122OneAlone(t *testing.T) {
	for _, n := range []int{1, -1, 6, billion, -billion} {
		x := made(t, [][]int{{n}}, 0)
		wantPivot(t, x, 0, 0, api.OK)
		wantRows(t, x, "1")
		wantBasis(t, x, 0)
	}
	x := made(t, [][]int{{0}}, 0)
	wantPivot(t, x, 0, 0, api.ErrZero)
	wantRows(t, x, "0")
	// One row: it is divided, and no other is there.
	x = made(t, [][]int{{4, -6, 0, 9}}, 3)
	wantPivot(t, x, 0, 1, api.OK)
	wantRows(t, x, "-2/3 1 0 -3/2")
	wantBasis(t, x, 1)
	// One column: all but the row's are 0.
	x = made(t, [][]int{{4}, {-6}, {0}, {9}}, 0, 0, 0, 0)
	wantPivot(t, x, 1, 0, api.OK)
	wantRows(t, x, "0", "1", "0", "0")
	wantPivot(t, x, 3, 0, api.ErrZero)
}

func TestP122BasisOfOthers(t *testing.T) {
	// A Pivot sets its row's alone, though another row has that column.
	x := made(t, [][]int{{1, 2, 3}, {4, 5, 7}, {7, 8, 8}}, 2, 1, 2)
	wantPivot(t, x, 1, 2, api.OK)
	wantBasis(t, x, 2, 2, 2)
	wantPivot(t, x, 2, 0, api.OK)
	wantBasis(t, x, 2, 2, 0)
	wantPivot(t, x, 1, 1, api.OK)
	wantBasis(t, x, 2, 1, 0)
}

func TestP123NoneThere(t *testing.T) {
	x := made(t, [][]int{{1, 2, 3, 4}, {5, 6, 7, 8}}, 0, 1)
	for range 2 {
		for i := range 2 {
			for j := range 4 {
				if x.At(i, j) == "" {
					t.Errorf("At(%d, %d) is empty", i, j)
				}
			}
			for _, j := range beside(4) {
				if got := x.At(i, j); got != "" {
					t.Errorf("At(%d, %d): %q", i, j, got)
				}
			}
		}
		for _, i := range append(beside(2), 3) {
			for _, j := range append(beside(4), 0, 1, 2, 3) {
				if got := x.At(i, j); got != "" {
					t.Errorf("At(%d, %d): %q", i, j, got)
				}
			}
		}
		wantPivot(t, x, 1, 3, api.OK)
	}
	if x.Rows() != 2 || x.Columns() != 4 {
		t.Errorf("%d rows, %d columns", x.Rows(), x.Columns())
	}
}

// within has spare room behind what is told of it.
func within[E any](l []E, more ...E) []E {
	return append(slices.Clone(l), more...)[:len(l)]
}

// rooms is all of the rows, with the spare room of each.
func rooms(rows [][]int) [][]int {
	var all [][]int
	for _, row := range rows[:cap(rows)] {
		all = append(all, slices.Clone(row[:cap(row)]))
	}
	return all
}

func TestR3WhatIsHandedIn(t *testing.T) {
	rows := within([][]int{within([]int{2, 4, 6}, 7, 8), within([]int{1, 0, 1}, 9)}, []int{5}, []int{6})
	basis := within([]int{0, 1}, 3, 4)
	wasRows, wasBasis := rooms(rows), slices.Clone(basis[:cap(basis)])
	x, y := made(t, rows, basis...), made(t, rows, basis...)
	wantPivot(t, x, 0, 1, api.OK)
	wantPivot(t, x, 1, 0, api.OK)
	x.Basis()
	if !reflect.DeepEqual(rooms(rows), wasRows) || !slices.Equal(basis[:cap(basis)], wasBasis) {
		t.Errorf("changed: %v, %v", rooms(rows), basis[:cap(basis)])
	}
	// Two objects have nothing in common.
	wantRows(t, y, "2 4 6", "1 0 1")
	wantBasis(t, y, 0, 1)
	// Nothing of it is kept.
	was := stateOf(x)
	for _, row := range rows[:cap(rows)] {
		for j := range row[:cap(row)] {
			row[:cap(row)][j] = 99
		}
	}
	rows[0] = nil
	for i := range basis[:cap(basis)] {
		basis[:cap(basis)][i] = 2
	}
	wantSame(t, x, was)
	wantRows(t, y, "2 4 6", "1 0 1")
	wantBasis(t, y, 0, 1)
	wantPivot(t, y, 1, 2, api.OK)
	wantRows(t, y, "-4 4 0", "1 0 1")
}

func TestR3WhatIsAnswered(t *testing.T) {
	x := made(t, [][]int{{2, 4, 6}, {1, 0, 1}, {0, 1, 5}}, 0, 1, 2)
	for range 2 {
		was := stateOf(x)
		one, other := x.Basis(), x.Basis()
		kept := slices.Clone(other)
		for i := range one[:cap(one)] {
			one[:cap(one)][i] = 77
		}
		_ = append(one, 5)
		if !slices.Equal(other, kept) {
			t.Errorf("two answers share: %v", other)
		}
		wantSame(t, x, was)
		// What was told stays as it was.
		wantPivot(t, x, 2, 1, api.OK)
		if !slices.Equal(other, kept) {
			t.Errorf("a Pivot changed what Basis told: %v", other)
		}
	}
}
