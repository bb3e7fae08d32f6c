package order_test

import (
	"math"
	"slices"
	"strconv"
	"strings"
	"testing"

	"noonbell/api"
)

// trial is a field's text, and the error that it brings.
type trial struct {
	text string
	e    api.Errno
}

// notNumbers are words that lex.Number refuses.
func notNumbers() []string {
	return []string{
		"x", "-", ",", "--1", "-0", "00", "007", "01", "-01", "1-", "1-1", "1x", "x1", "α", "1,2", "1,", ",1", "buy",
		"1000000001", "-1000000001", "10000000000", "4294967297", "18446744073709551617", strings.Repeat("1", 100),
	}
}

// numberTrials are numbers at both ends and beyond them, and words that are
// none.
func numberTrials(low, high int, beyond api.Errno) []trial {
	l := []trial{
		{strconv.Itoa(low), api.OK}, {strconv.Itoa(high), api.OK}, {strconv.Itoa(low + (high-low)/2), api.OK},
		{strconv.Itoa(low - 1), beyond},
	}
	if low > 0 {
		l = append(l, trial{"0", beyond})
	}
	// Beyond a billion there is no number.
	if high < billion {
		l = append(l, trial{strconv.Itoa(high + 1), beyond}, trial{"1000000000", beyond}, trial{"-1000000000", beyond})
	}
	for _, w := range notNumbers() {
		l = append(l, trial{w, api.ErrNumber})
	}
	return l
}

func sideTrials() []trial {
	l := []trial{{"buy", api.OK}, {"sell", api.OK}}
	for _, w := range []string{"bye", "bu", "buyy", "buys", "sel", "sells", "ssell", "b", "s", "0", "1", "-", "buy,sell", "buysell", "lock", "step", "β"} {
		l = append(l, trial{w, api.ErrField})
	}
	return l
}

// qtysTrials are those of three hours.
func qtysTrials() []trial {
	return []trial{
		{"1,0,0", api.OK}, {"0,1,0", api.OK}, {"0,0,1", api.OK}, {"1,2,3", api.OK}, {"1000,1000,1000", api.OK}, {"0,1000,0", api.OK}, {"7,7,7", api.OK},
		{"x", api.ErrNumber}, {"1,x,1", api.ErrNumber}, {"1,1,x", api.ErrNumber}, {"1,1,", api.ErrNumber}, {",1,1", api.ErrNumber},
		{"1,,1", api.ErrNumber}, {",,", api.ErrNumber}, {",", api.ErrNumber}, {"1,1,-0", api.ErrNumber}, {"1,01,1", api.ErrNumber},
		{"1,1,1000000001", api.ErrNumber}, {"1-1-1", api.ErrNumber}, {"1,1,1,", api.ErrNumber}, {"1,x", api.ErrNumber}, {"1,1,1,x", api.ErrNumber},
		{"2000,-1,x", api.ErrNumber}, {"buy", api.ErrNumber},
		{"1" + strings.Repeat(",1", 16), api.ErrNumber}, {"1" + strings.Repeat(",1", 40), api.ErrNumber}, {"1" + strings.Repeat(",1", 15), api.ErrField},
		{"1", api.ErrField}, {"1,1", api.ErrField}, {"1,1,1,1", api.ErrField}, {"0", api.ErrField}, {"0,0", api.ErrField}, {"0,0,0,0", api.ErrField},
		{"-1", api.ErrField}, {"1001,1", api.ErrField}, {"1,1,1,-1", api.ErrField}, {"1,1,1,1001", api.ErrField},
		{"0,0,0", api.ErrQty}, {"-1,1,1", api.ErrQty}, {"1,-1,1", api.ErrQty}, {"1,1,-1", api.ErrQty}, {"1001,0,0", api.ErrQty},
		{"0,1001,0", api.ErrQty}, {"1,1,1001", api.ErrQty}, {"-1,-1,-1", api.ErrQty}, {"-1000000000,1,1", api.ErrQty}, {"1,1,1000000000", api.ErrQty},
		{"-1,1,0", api.ErrQty}, {"500,501,-1", api.ErrQty}, {"-1,0,0", api.ErrQty}, {"-5,5,1001", api.ErrQty},
	}
}

// trials are what is tried as each field of the line, in the wide grid.
func trials(verb string) [][]trial {
	seq := numberTrials(1, 1000, api.ErrNumber)
	zone, hour := numberTrials(0, 2, api.ErrZone), numberTrials(0, 2, api.ErrHour)
	price := numberTrials(-500, 3000, api.ErrPrice)
	switch verb {
	case "lock":
		return [][]trial{numberTrials(1, billion, api.ErrNumber)}
	case "step":
		return [][]trial{seq, zone, hour, sideTrials(), numberTrials(1, 1000, api.ErrQty), price}
	case "block":
		return [][]trial{seq, zone, sideTrials(), price, qtysTrials(), numberTrials(0, 1000, api.ErrNumber), numberTrials(0, 9, api.ErrNumber)}
	}
	return [][]trial{seq}
}

func TestP91EachFieldAlone(t *testing.T) {
	g := wideGrid()
	for _, words := range goodLines() {
		for i, l := range trials(words[0]) {
			for _, c := range l {
				line := slices.Clone(words)
				line[1+i] = c.text
				wantEither(t, strings.Join(line, " "), g, c.e)
			}
		}
	}
}

// Of two fields that are wrong the left one is told, whichever errors theirs
// are.
func TestP91EachTwoFields(t *testing.T) {
	g := wideGrid()
	for _, words := range goodLines() {
		all := trials(words[0])
		for i, left := range all {
			for j := i + 1; j < len(all); j++ {
				for _, a := range left {
					for _, b := range all[j] {
						line := slices.Clone(words)
						line[1+i], line[1+j] = a.text, b.text
						e := a.e
						if e == api.OK {
							e = b.e
						}
						if s := strings.Join(line, " "); len(s) <= 200 {
							wantEither(t, s, g, e)
						}
					}
				}
			}
		}
	}
}

// All fields from one on are wrong.
func TestP91TheFirstOfAllThatAreWrong(t *testing.T) {
	g := wideGrid()
	for _, c := range []struct {
		good, bad []string
		e         []api.Errno
	}{
		{[]string{"step", "1", "0", "0", "buy", "10", "50"}, []string{"", "0", "3", "3", "bye", "0", "3001"},
			[]api.Errno{0, api.ErrNumber, api.ErrZone, api.ErrHour, api.ErrField, api.ErrQty, api.ErrPrice}},
		{[]string{"block", "2", "1", "sell", "-5", "3,0,1", "4", "5"}, []string{"", "1001", "-1", "x", "-501", "0,0,0", "1001", "10"},
			[]api.Errno{0, api.ErrNumber, api.ErrZone, api.ErrField, api.ErrPrice, api.ErrQty, api.ErrNumber, api.ErrNumber}},
	} {
		for i := 1; i < len(c.good); i++ {
			wantError(t, strings.Join(append(slices.Clone(c.good[:i]), c.bad[i:]...), " "), g, c.e[i])
		}
	}
}

// A grid is taken as it is handed in, whether or not there may be such a one.
func TestP91ZoneAndHourByTheGrid(t *testing.T) {
	for _, many := range []int{math.MinInt, -billion, -1, 0, 1, 2, 3, 16, 17, 1000, billion, math.MaxInt} {
		for _, n := range []int{-billion, -1, 0, 1, 2, 3, 15, 16, 17, 999, 1000, 1001, billion - 1, billion} {
			zoneE, hourE := api.OK, api.OK
			if n < 0 || n >= many {
				zoneE, hourE = api.ErrZone, api.ErrHour
			}
			text := strconv.Itoa(n)
			zones, hours := wideGrid(), wideGrid()
			zones.Zones, hours.Hours = many, many
			wantEither(t, "step 1 "+text+" 0 buy 10 50", zones, zoneE)
			wantEither(t, "block 1 "+text+" buy 10 1,1,1 0 0", zones, zoneE)
			wantEither(t, "step 1 0 "+text+" buy 10 50", hours, hourE)
		}
	}
}

func TestP91PriceByTheGrid(t *testing.T) {
	ends := []int{math.MinInt, -billion, -100000, -1, 0, 1, 50, 100000, billion, math.MaxInt}
	for _, low := range ends {
		for _, high := range ends {
			g := wideGrid()
			g.Low, g.High = low, high
			for _, n := range []int{-billion, -100001, -100000, -99999, -2, -1, 0, 1, 2, 49, 50, 51, 99999, 100000, 100001, billion} {
				e := api.ErrPrice
				if low <= n && n <= high {
					e = api.OK
				}
				text := strconv.Itoa(n)
				wantEither(t, "step 1 0 0 sell 10 "+text, g, e)
				wantEither(t, "block 1 0 buy "+text+" 1,1,1 0 0", g, e)
			}
		}
	}
}

// As many quantities as hours; more than sixteen are no numbers.
func TestP91QuantitiesByTheGrid(t *testing.T) {
	for _, hours := range []int{math.MinInt, -1, 0, 1, 2, 3, 4, 15, 16, 17, 18, math.MaxInt} {
		for n := 1; n <= 20; n++ {
			g, e := wideGrid(), api.OK
			g.Hours = hours
			if n > 16 {
				e = api.ErrNumber
			} else if n != hours {
				e = api.ErrField
			}
			wantEither(t, "block 1 0 buy 10 1"+strings.Repeat(",1", n-1)+" 0 0", g, e)
			wantEither(t, "block 1 0 buy 10 1000"+strings.Repeat(",0", n-1)+" 0 0", g, e)
			if e == api.OK {
				e = api.ErrQty
			}
			wantEither(t, "block 1 0 buy 10 0"+strings.Repeat(",0", n-1)+" 0 0", g, e)
			wantEither(t, "block 1 0 buy 10 -1"+strings.Repeat(",1", n-1)+" 0 0", g, e)
			wantEither(t, "block 1 0 buy 10 1001"+strings.Repeat(",1", n-1)+" 0 0", g, e)
		}
	}
}

// The zero grid has neither zones nor hours; what names none is taken.
func TestP91TheZeroGrid(t *testing.T) {
	g := api.Grid{}
	wantEither(t, "lock 5", g, api.OK)
	wantEither(t, "cancel 5", g, api.OK)
	wantError(t, "step 1 0 0 buy 1 0", g, api.ErrZone)
	wantError(t, "block 1 0 buy 0 1 0 0", g, api.ErrZone)
}

// The limits are those of the document.
func TestP91Limits(t *testing.T) {
	if api.MaxSeq != 1000 || api.MaxQty != 1000 || api.MaxLine != 200 {
		t.Errorf("MaxSeq %d, MaxQty %d, MaxLine %d", api.MaxSeq, api.MaxQty, api.MaxLine)
	}
	g := wideGrid()
	for n := -5; n <= 1005; n++ {
		text := strconv.Itoa(n)
		seqE, parentE, groupE, qtyE, centsE := api.OK, api.OK, api.OK, api.OK, api.OK
		if n < 1 || n > 1000 {
			seqE, qtyE = api.ErrNumber, api.ErrQty
		}
		if n < 0 || n > 1000 {
			parentE = api.ErrNumber
		}
		if n < 0 || n > 9 {
			groupE = api.ErrNumber
		}
		if n < 1 {
			centsE = api.ErrNumber
		}
		wantEither(t, "lock "+text, g, centsE)
		wantEither(t, "cancel "+text, g, seqE)
		wantEither(t, "step "+text+" 0 0 buy 10 50", g, seqE)
		wantEither(t, "step 1 0 0 buy "+text+" 50", g, qtyE)
		wantEither(t, "block "+text+" 0 buy 50 1,1,1 0 0", g, seqE)
		wantEither(t, "block 1 0 buy 50 1,1,1 "+text+" 0", g, parentE)
		wantEither(t, "block 1 0 buy 50 1,1,1 0 "+text, g, groupE)
	}
}
