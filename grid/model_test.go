package grid_test

import (
	"fmt"
	"math/big"
	"math/rand/v2"
	"regexp"
	"slices"
	"strconv"
	"strings"
	"testing"

	"noonbell/api"
	"noonbell/grid"
)

// The models know the document's numbers, not the program's.

func modelCheck(g api.Grid) bool {
	is := (g.Zones == 1 || g.Zones == 2 || g.Zones == 3) && (g.Hours == 1 || g.Hours == 2 || g.Hours == 3)
	is = is && len(g.Lines) < 4 && g.Low > -100001 && g.High < 100001 && !(g.Low > g.High)
	for _, l := range g.Lines {
		is = is && l.From > -1 && l.From < g.Zones && l.To > -1 && l.To < g.Zones && l.From != l.To && l.Cap > -1 && l.Cap < 1001
	}
	return is
}

func modelExport(g api.Grid, f []*big.Rat) []string {
	var l []string
	for zone := range g.Zones {
		sum := new(big.Rat)
		for i, x := range g.Lines {
			switch zone {
			case x.From:
				sum.Add(sum, f[i])
			case x.To:
				sum.Sub(sum, f[i])
			}
		}
		l = append(l, sum.RatString())
	}
	return l
}

func modelWithin(g api.Grid, f []*big.Rat) bool {
	for i, x := range g.Lines {
		if new(big.Rat).Abs(f[i]).Cmp(big.NewRat(int64(x.Cap), 1)) > 0 {
			return false
		}
	}
	return true
}

// modelIslands goes from each zone on by all ways of at most so many lines as
// there are zones.
func modelIslands(g api.Grid) []int {
	var islands []int
	for zone := range g.Zones {
		reached := []int{zone}
		for range g.Zones {
			for _, l := range g.Lines {
				if l.Cap == 0 {
					continue
				}
				if slices.Contains(reached, l.From) {
					reached = append(reached, l.To)
				}
				if slices.Contains(reached, l.To) {
					reached = append(reached, l.From)
				}
			}
		}
		islands = append(islands, slices.Min(reached))
	}
	return islands
}

func modelPrint(g api.Grid) string {
	s := fmt.Sprintf("grid %d %d %d %d", g.Zones, g.Hours, g.Low, g.High)
	for _, l := range g.Lines {
		s += fmt.Sprintf(" %d %d %d", l.From, l.To, l.Cap)
	}
	return s
}

var form = regexp.MustCompile(`^grid( (?:0|-?[1-9][0-9]{0,8}))( (?:0|-?[1-9][0-9]{0,8}))( (?:0|-?[1-9][0-9]{0,8}))( (?:0|-?[1-9][0-9]{0,8}))((?:(?: (?:0|-?[1-9][0-9]{0,8})){3})*)$`)

func modelParse(s string) (api.Grid, bool) {
	if !form.MatchString(s) {
		return api.Grid{}, false
	}
	var l []int
	for _, w := range strings.Fields(s)[1:] {
		n, _ := strconv.Atoi(w)
		l = append(l, n)
	}
	g := api.Grid{Zones: l[0], Hours: l[1], Low: l[2], High: l[3]}
	for i := 4; i < len(l); i += 3 {
		g.Lines = append(g.Lines, api.Line{From: l[i], To: l[i+1], Cap: l[i+2]})
	}
	if !modelCheck(g) {
		return api.Grid{}, false
	}
	return g, true
}

// holdParse holds Parse of the text against the model's.
func holdParse(t *testing.T, s string) {
	t.Helper()
	if g, is := modelParse(s); is {
		wantText(t, g, s)
	} else {
		wantForm(t, s)
	}
}

// allLines calls with each list of at most three lines between so many zones,
// of these Caps.
func allLines(zones int, caps []int, call func(lines []api.Line)) {
	var each []api.Line
	for from := range zones {
		for to := range zones {
			for _, c := range caps {
				if from != to {
					each = append(each, line(from, to, c))
				}
			}
		}
	}
	var on func(lines []api.Line)
	on = func(lines []api.Line) {
		call(lines)
		if len(lines) == 3 {
			return
		}
		for _, l := range each {
			on(append(slices.Clone(lines), l))
		}
	}
	on(nil)
}

func drawnFrom(r *rand.Rand, l []int) int {
	return l[r.IntN(len(l))]
}

// drawn is a grid that may be.
func drawn(r *rand.Rand) api.Grid {
	g := api.Grid{Zones: 1 + r.IntN(3), Hours: 1 + r.IntN(3)}
	g.Low = r.IntN(200001) - 100000
	g.High = g.Low + r.IntN(100001-g.Low)
	if r.IntN(4) == 0 {
		g.High = g.Low
	}
	for range r.IntN(4) {
		if g.Zones > 1 {
			from := r.IntN(g.Zones)
			g.Lines = append(g.Lines, line(from, (from+1+r.IntN(g.Zones-1))%g.Zones, r.IntN(1001)))
		}
	}
	return g
}

// flows are drawn ones, at the lines' limits, just beyond, within, far off.
func flows(r *rand.Rand, g api.Grid) ([]*big.Rat, []string) {
	var f []*big.Rat
	var texts []string
	for _, l := range g.Lines {
		n := big.NewRat(int64(l.Cap), 1)
		switch r.IntN(5) {
		case 0:
			n.Add(n, big.NewRat(1, 1+r.Int64N(1000000)))
		case 1:
			n.Sub(n, big.NewRat(1, 1+r.Int64N(1000000)))
		case 2:
			n.Mul(n, big.NewRat(r.Int64N(100), 1+r.Int64N(100)))
		case 3:
			n.Mul(n, big.NewRat(r.Int64(), 1+r.Int64()))
		}
		if r.IntN(2) == 0 {
			n.Neg(n)
		}
		f, texts = append(f, n), append(texts, n.RatString())
	}
	return f, texts
}

func TestP141AgainstTheModel(t *testing.T) {
	r := rand.New(rand.NewPCG(14, 1))
	near := []int{-2, -1, 0, 1, 2, 3, 4}
	prices := []int{-100001, -100000, -5, 0, 5, 100000, 100001}
	good := 0
	for range 100000 {
		g := api.Grid{Zones: drawnFrom(r, near[2:]), Hours: drawnFrom(r, near[2:]), Low: drawnFrom(r, prices), High: drawnFrom(r, prices)}
		for range r.IntN(5) {
			g.Lines = append(g.Lines, line(drawnFrom(r, near), drawnFrom(r, near), drawnFrom(r, []int{-1, 0, 1, 1000, 1001})))
		}
		// Else hardly one of those with lines could be.
		if r.IntN(2) == 0 {
			g = drawn(r)
		}
		if is := modelCheck(g); is {
			good++
			wantCheck(t, g, api.OK)
		} else {
			wantCheck(t, g, api.ErrGrid)
		}
	}
	if good < 20000 || good > 90000 {
		t.Errorf("%d of the grids may be", good)
	}
}

func TestP142AgainstTheModel(t *testing.T) {
	r := rand.New(rand.NewPCG(14, 2))
	within := 0
	for range 30000 {
		g := drawn(r)
		f, texts := flows(r, g)
		wantExport(t, g, api.OK, texts, modelExport(g, f)...)
		is := modelWithin(g, f)
		wantWithin(t, g, is, texts...)
		if is && len(f) > 0 {
			within++
		}
	}
	if within < 1000 || within > 25000 {
		t.Errorf("%d of the flows are within", within)
	}
}

// All grids with lines of no Cap, of the least, and of the greatest.
func TestP143AllIslands(t *testing.T) {
	for zones := 1; zones <= 3; zones++ {
		allLines(zones, []int{0, 1, 1000}, func(lines []api.Line) {
			g := gridOf(zones, lines...)
			wantIslands(t, g, modelIslands(g)...)
		})
	}
}

// Each number of a grid at each of its edges, with all that the others may be.
func TestP144AllEdges(t *testing.T) {
	prices := [][2]int{{0, 0}, {-100000, 100000}, {-100000, -100000}, {100000, 100000}, {-1, 9}, {10, 11}}
	for zones := 1; zones <= 3; zones++ {
		i := 0
		allLines(zones, []int{0, 10, 1000}, func(lines []api.Line) {
			g := gridOf(zones, lines...)
			for g.Hours = 1; g.Hours <= 3; g.Hours++ {
				i++
				g.Low, g.High = prices[i%len(prices)][0], prices[i%len(prices)][1]
				wantText(t, g, modelPrint(g))
			}
		})
	}
}

func TestP144AgainstTheModel(t *testing.T) {
	r := rand.New(rand.NewPCG(14, 4))
	for range 30000 {
		g := drawn(r)
		wantText(t, g, modelPrint(g))
	}
}

// Texts with one byte too many, too few, or another one.
func TestP144NearTexts(t *testing.T) {
	bytes := "0123456789- ,+gridx"
	for _, s := range []string{"grid 1 1 0 0", "grid 2 3 -5 100000 0 1 10", "grid 3 1 0 10 2 1 5 0 1 1000", "grid 3 3 -100000 10 0 1 99 1 2 0 2 0 1000"} {
		holdParse(t, s)
		for i := range len(s) + 1 {
			for _, b := range bytes {
				holdParse(t, s[:i]+string(b)+s[i:])
			}
			if i == len(s) {
				break
			}
			holdParse(t, s[:i]+s[i+1:])
			holdParse(t, s[:i])
			holdParse(t, s[i:])
			for _, b := range bytes {
				holdParse(t, s[:i]+string(b)+s[i+1:])
			}
		}
	}
}

func TestP144DrawnTexts(t *testing.T) {
	r := rand.New(rand.NewPCG(14, 5))
	words := []string{"0", "1", "2", "3", "4", "-1", "10", "1000", "1001", "-100000", "100000", "100001", "01", "-0", "x", ""}
	good := 0
	for range 200000 {
		l := []string{"grid"}
		for range r.IntN(15) {
			// Mostly words that may well be good ones.
			l = append(l, words[min(r.IntN(len(words)), r.IntN(len(words)), r.IntN(len(words)))])
		}
		s := strings.Join(l, " ")
		if _, is := modelParse(s); is {
			good++
		}
		holdParse(t, s)
	}
	if good < 500 {
		t.Errorf("%d of the texts are a grid's", good)
	}
}

func TestP145WhatIsExportedSumsToZero(t *testing.T) {
	r := rand.New(rand.NewPCG(14, 6))
	for range 20000 {
		g := drawn(r)
		_, texts := flows(r, g)
		l, e := grid.Export(g, texts)
		if e != api.OK || len(l) != g.Zones {
			t.Fatalf("Export of %+v, %q: %v, error %d", g, texts, l, e)
		}
		sum := new(big.Rat)
		for _, text := range l {
			n, is := new(big.Rat).SetString(text)
			if !is || n.RatString() != text {
				t.Fatalf("Export of %+v, %q: %q is no number's text", g, texts, text)
			}
			sum.Add(sum, n)
		}
		if sum.Sign() != 0 {
			t.Errorf("Export of %+v, %q: %v sums to %s", g, texts, l, sum.RatString())
		}
	}
}

// No island exports anything, if nothing flows on lines that may carry
// nothing.
func TestP145IslandsKeepTheirOwn(t *testing.T) {
	r := rand.New(rand.NewPCG(14, 7))
	for range 20000 {
		g := drawn(r)
		_, texts := flows(r, g)
		for i := range g.Lines {
			if r.IntN(3) == 0 {
				g.Lines[i].Cap, texts[i] = 0, "0"
			} else {
				g.Lines[i].Cap = max(1, g.Lines[i].Cap)
			}
		}
		l, e := grid.Export(g, texts)
		if e != api.OK {
			t.Fatalf("Export of %+v, %q: error %d", g, texts, e)
		}
		sums := make([]big.Rat, g.Zones)
		for zone, island := range grid.Islands(g) {
			n, _ := new(big.Rat).SetString(l[zone])
			sums[island].Add(&sums[island], n)
		}
		for island := range sums {
			if sums[island].Sign() != 0 {
				t.Errorf("Export of %+v, %q: %v; the island of %d exports %s", g, texts, l, island, sums[island].RatString())
			}
		}
	}
}
