package grid

import (
	"strconv"

	"noonbell/api"
	"noonbell/lex"
)

const (
	// verb is the word that a grid's text begins with.
	verb = "grid"
	// head is how many numbers stand ahead of the lines'.
	head = 4
	// each is how many numbers a line has.
	each = 3
)

// Print answers the grid's text.
func Print(g api.Grid) string {
	numbers := []int{g.Zones, g.Hours, g.Low, g.High}
	for _, l := range g.Lines {
		numbers = append(numbers, l.From, l.To, l.Cap)
	}
	words := []string{verb}
	for _, n := range numbers {
		words = append(words, strconv.Itoa(n))
	}
	return lex.Join(words)
}

// Parse answers the grid whose text is s; ErrForm, if there is none.
func Parse(s string) (api.Grid, api.Errno) {
	// lex takes more words and bytes than the greatest grid has.
	words, e := lex.Words(s)
	if e != api.OK || words[0] != verb {
		return api.Grid{}, api.ErrForm
	}
	var numbers []int
	for _, w := range words[1:] {
		// A number has one text alone: so has a grid.
		n, e := lex.Number(w)
		if e != api.OK {
			return api.Grid{}, api.ErrForm
		}
		numbers = append(numbers, n)
	}
	if len(numbers) < head || (len(numbers)-head)%each != 0 {
		return api.Grid{}, api.ErrForm
	}
	g := laid(numbers)
	if Check(g) != api.OK {
		return api.Grid{}, api.ErrForm
	}
	return g, api.OK
}

// laid is the grid whose text has these numbers.
func laid(numbers []int) api.Grid {
	g := api.Grid{Zones: numbers[0], Hours: numbers[1], Low: numbers[2], High: numbers[3]}
	for l := numbers[head:]; len(l) > 0; l = l[each:] {
		g.Lines = append(g.Lines, api.Line{From: l[0], To: l[1], Cap: l[2]})
	}
	return g
}
