package order

import (
	"slices"
	"strconv"
	"strings"

	"noonbell/api"
	"noonbell/lex"
)

// The texts of SIDE.
const (
	buyText  = "buy"
	sellText = "sell"
)

// fields hands out a line's fields from the left. A kind of line takes all of
// its fields, whatever they are: only the first that is wrong is told.
type fields struct {
	left  []string
	grid  api.Grid
	wrong api.Errno
}

// next takes a field; how many there are was asked ahead.
func (f *fields) next() string {
	w := f.left[0]
	f.left = f.left[1:]
	return w
}

func (f *fields) refuse(e api.Errno) {
	if f.wrong == api.OK {
		f.wrong = e
	}
}

// number takes a number from low to high; another one is refused by the error.
func (f *fields) number(low, high int, beyond api.Errno) int {
	n, e := lex.Number(f.next())
	if e != api.OK {
		f.refuse(api.ErrNumber)
	} else if n < low || n > high {
		f.refuse(beyond)
	}
	return n
}

// place takes one of so many places, which are counted from 0 on.
func (f *fields) place(many int, beyond api.Errno) int {
	// Of the least int one less would wrap round.
	return f.number(0, max(many, 0)-1, beyond)
}

// side takes SIDE, and tells whether it buys.
func (f *fields) side() bool {
	w := f.next()
	if w != buyText && w != sellText {
		f.refuse(api.ErrField)
	}
	return w == buyText
}

// quantities takes a block's quantities, hour by hour.
func (f *fields) quantities() []int {
	l, e := lex.Numbers(f.next())
	switch {
	case e != api.OK:
		f.refuse(api.ErrNumber)
	case len(l) != f.grid.Hours:
		f.refuse(api.ErrField)
	case slices.Min(l) < 0 || slices.Max(l) < 1 || slices.Max(l) > api.MaxQty:
		f.refuse(api.ErrQty)
	}
	return l
}

func sideText(buy bool) string {
	if buy {
		return buyText
	}
	return sellText
}

func quantitiesText(l []int) string {
	var texts []string
	for _, n := range l {
		texts = append(texts, strconv.Itoa(n))
	}
	return strings.Join(texts, ",")
}
