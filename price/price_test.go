package price_test

import (
	"fmt"
	"reflect"
	"slices"
	"strconv"
	"strings"
	"testing"

	"noonbell/api"
	"noonbell/grid"
	"noonbell/market"
	"noonbell/price"
	"noonbell/rat"
	"noonbell/result"
)

const (
	least    = -1 << 63
	greatest = 1<<63 - 1
)

// gridOf is one whose prices are from -500 to 3000.
func gridOf(zones, hours int, lines ...api.Line) api.Grid {
	return api.Grid{Zones: zones, Hours: hours, Lines: lines, Low: -500, High: 3000}
}

func line(from, to, capacity int) api.Line {
	return api.Line{From: from, To: to, Cap: capacity}
}

// sells and buys are steps of hour 0.
func sells(who string, seq, zone, qty, price int) api.Step {
	return api.Step{Who: who, Seq: seq, Zone: zone, Qty: qty, Price: price}
}

func buys(who string, seq, zone, qty, price int) api.Step {
	return api.Step{Who: who, Seq: seq, Zone: zone, Buy: true, Qty: qty, Price: price}
}

// inHour is the step in that hour.
func inHour(hour int, s api.Step) api.Step {
	s.Hour = hour
	return s
}

// gives and takes are blocks.
func gives(who string, seq, zone, price int, qty ...int) api.Block {
	return api.Block{Who: who, Seq: seq, Zone: zone, Price: price, Qty: qty}
}

func takes(who string, seq, zone, price int, qty ...int) api.Block {
	return api.Block{Who: who, Seq: seq, Zone: zone, Buy: true, Price: price, Qty: qty}
}

// table is hour by hour, with / between: the numbers of each have blanks
// between, and of a number's bar a colon.
func table(hours string) [][]string {
	var l [][]string
	for hour := range strings.SplitSeq(hours, "/") {
		l = append(l, words(hour))
	}
	return l
}

func words(line string) []string {
	l := []string{}
	for word := range strings.FieldsSeq(line) {
		l = append(l, strings.ReplaceAll(word, ":", "/"))
	}
	return l
}

// marks are what is accepted: an x each.
func marks(line string) []bool {
	l := []bool{}
	for _, r := range line {
		l = append(l, r == 'x')
	}
	return l
}

// asked is all that Find is handed.
type asked struct {
	g      api.Grid
	steps  []api.Step
	blocks []api.Block
	accept []bool
	x      []string
	f      [][]string
}

// example is the document's: a sells 10 at 20, b buys 6 at 50.
func example(x string) asked {
	return asked{
		g:     api.Grid{Zones: 1, Hours: 1, High: 100},
		steps: []api.Step{sells("a", 1, 0, 10, 20), buys("b", 1, 0, 6, 50)},
		x:     words(x), f: table(""),
	}
}

// rich has two zones, two hours, a line that is full in the first of them, one
// that can carry nothing, and blocks of which the first just does not lose.
func rich() asked {
	return asked{
		gridOf(2, 2, line(0, 1, 5), line(1, 0, 0)),
		[]api.Step{
			sells("a", 1, 0, 10, 20), inHour(1, sells("a", 2, 0, 10, 30)),
			buys("b", 1, 1, 8, 50), inHour(1, buys("b", 2, 1, 6, 60)),
		},
		[]api.Block{gives("c", 1, 1, 38, 2, 3), takes("c", 2, 0, 25, 1, 0), takes("c", 3, 0, 10, 1, 1)},
		marks("xx."),
		words("6 3 7 6"),
		table("5 0/3 0"),
	}
}

// copied shares no lists with it.
func (c asked) copied() asked {
	c.g.Lines, c.steps, c.blocks = slices.Clone(c.g.Lines), slices.Clone(c.steps), slices.Clone(c.blocks)
	for i, b := range c.blocks {
		c.blocks[i].Qty = slices.Clone(b.Qty)
	}
	c.accept, c.x, c.f = slices.Clone(c.accept), slices.Clone(c.x), slices.Clone(c.f)
	for i, l := range c.f {
		c.f[i] = slices.Clone(l)
	}
	return c
}

// with is one that is changed.
func (c asked) with(changes ...func(c *asked)) asked {
	c = c.copied()
	for _, change := range changes {
		change(&c)
	}
	return c
}

func (c asked) bounds(hour, zone int) (int, int, bool) {
	return price.Bounds(c.g, c.steps, c.x, hour, zone)
}

func (c asked) find() ([][]string, bool) {
	return price.Find(c.g, c.steps, c.blocks, c.accept, c.x, c.f)
}

func wantBounds(t *testing.T, c asked, hour, zone, least, greatest int, is bool) {
	t.Helper()
	for range 2 {
		if low, high, may := c.bounds(hour, zone); low != least || high != greatest || may != is {
			t.Errorf("Bounds of hour %d, zone %d, %+v: %d, %d, %t; not %d, %d, %t", hour, zone, c, low, high, may, least, greatest, is)
		}
	}
}

// wantFind holds that there are prices, and that those that are told fit by the
// model, and by what a result asks; or that there are none.
func wantFind(t *testing.T, what string, c asked, is bool) {
	t.Helper()
	p, may := c.find()
	if again, mayAgain := c.find(); mayAgain != may || !reflect.DeepEqual(again, p) {
		t.Errorf("%s: %v, %t, then %v, %t: %+v", what, p, may, again, mayAgain, c)
	}
	if may != is || !is && len(p) > 0 {
		t.Errorf("%s: %v, %t, not %t: %+v", what, p, may, is, c)
		return
	}
	if is && !fits(c, p) {
		t.Errorf("%s: %v do not fit: %+v", what, p, c)
	}
	if is && isEven(c) && result.Linked(c.blocks, c.accept) {
		wantResult(t, what, c, p)
	}
}

// wantResult asks the prices of a result.
func wantResult(t *testing.T, what string, c asked, p [][]string) {
	t.Helper()
	w := market.Welfare(c.steps, c.x, c.blocks, c.accept)
	r := api.Result{Accept: c.accept, X: c.x, F: c.f, P: p, Welfare: w, Upper: w, Optimal: true}
	if n := result.Check(c.g, c.steps, c.blocks, r); n != 0 {
		t.Errorf("%s: a result with %v breaks %d: %+v", what, p, n, c)
	}
}

// isEven tells whether nothing is left over anywhere (R4).
func isEven(c asked) bool {
	for hour := range c.g.Hours {
		out, _ := grid.Export(c.g, c.f[hour])
		for zone, net := range market.Net(c.g, c.blocks, c.accept, hour) {
			sum := rat.Of(net)
			for i, s := range c.steps {
				x, _ := rat.Parse(c.x[i])
				if s.Buy {
					x = x.Neg()
				}
				if s.Hour == hour && s.Zone == zone {
					sum = sum.Add(x)
				}
			}
			if sum.Text() != out[zone] {
				return false
			}
		}
	}
	return true
}

// wantPrices holds that these are the prices, where there are no others.
func wantPrices(t *testing.T, what string, c asked, p string) {
	t.Helper()
	wantFind(t, what, c, true)
	if got, _ := c.find(); !slices.EqualFunc(got, table(p), slices.Equal) {
		t.Errorf("%s: %v, not %s: %+v", what, got, p, c)
	}
}

func TestP17Examples(t *testing.T) {
	wantBounds(t, example("6 6"), 0, 0, 20, 20, true)
	wantPrices(t, "no block", example("6 6"), "20")
	for _, own := range []int{0, 19, 20} {
		for _, qty := range []int{1, 5, 1000} {
			wantPrices(t, "a block that sells", example("6 6").with(func(c *asked) {
				c.blocks, c.accept = []api.Block{gives("c", 1, 0, own, qty)}, marks("x")
			}), "20")
		}
	}
	wantBounds(t, example("6 5"), 0, 0, 0, 0, false)
	wantFind(t, "6 5", example("6 5"), false)
	// A block of nothing is none that may be asked of.
	wantFind(t, "a block of nothing", example("6 6").with(func(c *asked) {
		c.blocks, c.accept = []api.Block{gives("c", 1, 0, 0, 0)}, marks("x")
	}), false)
	// DOC.md's seventh and ninth.
	wantFind(t, "it buys 4 at 30", example("10 6").with(func(c *asked) {
		c.blocks, c.accept = []api.Block{takes("c", 1, 0, 30, 4)}, marks("x")
	}), true)
	wantPrices(t, "a full line", asked{
		g:     gridOf(2, 1, line(0, 1, 5)),
		steps: []api.Step{sells("a", 1, 0, 10, 20), buys("b", 1, 1, 6, 50)},
		x:     words("5 5"), f: table("5"),
	}, "20 50")
}

func TestP171NoStep(t *testing.T) {
	for _, limits := range [][2]int{{-500, 3000}, {0, 0}, {7, 7}, {-100000, 100000}, {-100000, -100000}, {1, 3000}, {-500, -1}} {
		for zones := 1; zones <= 3; zones++ {
			for hours := 1; hours <= 3; hours++ {
				c := asked{g: gridOf(zones, hours)}
				c.g.Low, c.g.High = limits[0], limits[1]
				for hour := range hours {
					for zone := range zones {
						wantBounds(t, c, hour, zone, limits[0], limits[1], true)
						// Those of other hours and zones count nowhere else.
						d := c
						d.steps, d.x = []api.Step{inHour(hour, sells("a", 1, zone, 1, limits[1]))}, words("1")
						for other := range hours * zones {
							low := limits[0]
							if other/zones == hour && other%zones == zone {
								low = limits[1]
							}
							wantBounds(t, d, other/zones, other%zones, low, limits[1], true)
						}
					}
				}
			}
		}
	}
}

func TestP171NoSuchPlace(t *testing.T) {
	for zones := 1; zones <= 3; zones++ {
		for hours := 1; hours <= 3; hours++ {
			c := asked{g: gridOf(zones, hours), steps: []api.Step{inHour(hours-1, sells("a", 1, zones-1, 2, 7))}, x: words("1")}
			wantBounds(t, c, hours-1, zones-1, 7, 7, true)
			for _, n := range []int{least, -1000, -2, -1, hours, hours + 1, 1000, greatest} {
				wantBounds(t, c, n, zones-1, 0, 0, false)
				wantBounds(t, c, n, -1, 0, 0, false)
			}
			for _, n := range []int{least, -1000, -2, -1, zones, zones + 1, 1000, greatest} {
				wantBounds(t, c, hours-1, n, 0, 0, false)
				wantBounds(t, c, hours, n, 0, 0, false)
			}
		}
	}
}

// ofSteps has steps of hour 0, zone 0, by lines: who sells or buys, what it
// has, its price; of 4 each.
func ofSteps(lines ...string) asked {
	c := asked{g: gridOf(1, 1), f: table("")}
	for i, l := range lines {
		w := words(l)
		price, _ := strconv.Atoi(w[2])
		c.steps = append(c.steps, api.Step{Who: "a", Seq: i + 1, Buy: w[0] == "buys", Qty: 4, Price: price})
		c.x = append(c.x, w[1])
	}
	return c
}

func TestP171Alone(t *testing.T) {
	for _, own := range []int{-500, -499, -1, 0, 1, 30, 2999, 3000} {
		for _, part := range []string{"1:1000000", "1:3", "1", "2", "3", "11:3", "3999999:1000000"} {
			for _, side := range []string{"sells", "buys"} {
				wantBounds(t, ofSteps(fmt.Sprint(side, " ", part, " ", own)), 0, 0, own, own, true)
			}
		}
		wantBounds(t, ofSteps(fmt.Sprint("sells 0 ", own)), 0, 0, -500, own, true)
		wantBounds(t, ofSteps(fmt.Sprint("sells 4 ", own)), 0, 0, own, 3000, true)
		wantBounds(t, ofSteps(fmt.Sprint("buys 0 ", own)), 0, 0, own, 3000, true)
		wantBounds(t, ofSteps(fmt.Sprint("buys 4 ", own)), 0, 0, -500, own, true)
	}
}

// Each kind of a step with each: as many bounds below as above draw them
// together.
func TestP171Together(t *testing.T) {
	kinds := []string{"sells 0", "sells 4", "sells 2", "buys 0", "buys 4", "buys 2"}
	// Which of the bounds are its price: the least one, the greatest one.
	low := []bool{false, true, true, true, false, true}
	high := []bool{true, false, true, false, true, true}
	for i, first := range kinds {
		for j, second := range kinds {
			for _, p := range []int{20, 29, 30, 31, 50} {
				from, to := -500, 3000
				for _, of := range []struct {
					is   bool
					at   *int
					pick func(a int, b ...int) int
					own  int
				}{
					{low[i], &from, highest, 30}, {high[i], &to, lowest, 30},
					{low[j], &from, highest, p}, {high[j], &to, lowest, p},
				} {
					if of.is {
						*of.at = of.pick(*of.at, of.own)
					}
				}
				is := from <= to
				if !is {
					from, to = 0, 0
				}
				wantBounds(t, ofSteps(first+" 30", fmt.Sprint(second, " ", p)), 0, 0, from, to, is)
				wantBounds(t, ofSteps(fmt.Sprint(second, " ", p), first+" 30"), 0, 0, from, to, is)
			}
		}
	}
}

func highest(a int, b ...int) int { return slices.Max(append(b, a)) }

func lowest(a int, b ...int) int { return slices.Min(append(b, a)) }

func TestP171Many(t *testing.T) {
	wantBounds(t, ofSteps("sells 4 10", "sells 4 20", "sells 0 60", "sells 0 40", "buys 0 15", "buys 0 25", "buys 4 50", "buys 4 30"), 0, 0, 25, 30, true)
	wantBounds(t, ofSteps("sells 4 27", "sells 4 20", "sells 0 60", "sells 0 28", "buys 0 15", "buys 0 25", "buys 4 50", "buys 4 30"), 0, 0, 27, 28, true)
	wantBounds(t, ofSteps("sells 4 27", "sells 0 27", "buys 0 27", "buys 4 27", "buys 1 27", "sells 3 27"), 0, 0, 27, 27, true)
	wantBounds(t, ofSteps("sells 4 27", "sells 0 27", "buys 0 28", "buys 4 27"), 0, 0, 0, 0, false)
	wantBounds(t, ofSteps("sells 1 27", "sells 1 28"), 0, 0, 0, 0, false)
	wantBounds(t, ofSteps("buys 1 27", "buys 1 26"), 0, 0, 0, 0, false)
	// 0 is a price like others.
	wantBounds(t, ofSteps("sells 1 0"), 0, 0, 0, 0, true)
	wantBounds(t, ofSteps("sells 4 -3", "buys 4 -1"), 0, 0, -3, -1, true)
	// All that there may be.
	c := asked{g: gridOf(1, 1)}
	for i := range 32 {
		c.steps, c.x = append(c.steps, sells("a", i+1, 0, 2, i)), append(c.x, "2")
		if i > 20 {
			c.x[i] = "0"
		}
	}
	wantBounds(t, c, 0, 0, 20, 21, true)
}

// Each place has bounds of its own, whatever the others have.
func TestP171Places(t *testing.T) {
	c := rich()
	for at, want := range [][3]int{{20, 20, 1}, {50, 50, 1}, {30, 30, 1}, {-500, 60, 1}} {
		wantBounds(t, c, at/2, at%2, want[0], want[1], want[2] == 1)
	}
	// One with none spoils no other.
	c = c.with(func(c *asked) {
		c.steps = append(c.steps, sells("d", 1, 0, 5, 21))
		c.x = append(c.x, "1")
	})
	for at, want := range [][3]int{{0, 0, 0}, {50, 50, 1}, {30, 30, 1}, {-500, 60, 1}} {
		wantBounds(t, c, at/2, at%2, want[0], want[1], want[2] == 1)
	}
	wantFind(t, "none at one place", c, false)
}

func TestP172Nothing(t *testing.T) {
	for zones := 1; zones <= 3; zones++ {
		for hours := 1; hours <= 3; hours++ {
			c := asked{g: gridOf(zones, hours), f: make([][]string, hours)}
			wantFind(t, "no orders", c, true)
			c.accept, c.x, c.steps, c.blocks = []bool{}, []string{}, []api.Step{}, []api.Block{}
			wantFind(t, "no orders", c, true)
			c.g.Low, c.g.High = 7, 7
			row := strings.Repeat(" 7", zones)
			wantPrices(t, "one price", c, strings.TrimSuffix(strings.Repeat(row+"/", hours), "/"))
		}
	}
}

func TestP172Steps(t *testing.T) {
	for _, c := range []asked{ofSteps("sells 2 30"), ofSteps("buys 1:3 30"), ofSteps("sells 4 30", "buys 4 30"), ofSteps("sells 0 30", "buys 0 30")} {
		wantPrices(t, "one price", c, "30")
	}
	for _, c := range []asked{ofSteps("sells 0 30"), ofSteps("sells 4 3000"), ofSteps("buys 4 -500"), ofSteps("buys 0 30"), ofSteps("sells 4 30", "buys 4 31")} {
		wantFind(t, "some prices", c, true)
	}
	for _, c := range []asked{ofSteps("sells 2 30", "sells 1 31"), ofSteps("sells 4 31", "buys 4 30"), ofSteps("sells 0 30", "buys 0 31")} {
		wantFind(t, "no price", c, false)
	}
	// One place alone with none, each in turn.
	for at := range 9 {
		c := asked{g: gridOf(3, 3), steps: []api.Step{inHour(at/3, sells("a", 1, at%3, 4, 31)), inHour(at/3, buys("b", 1, at%3, 4, 31))}, x: words("4 4"), f: table("//")}
		wantFind(t, "none at one place", c, true)
		c.steps[1].Price = 30
		wantFind(t, "none at one place", c, false)
	}
}

// between has two zones, at which there is one price each, and a line with its
// flow.
func between(capacity int, flow string, from, to int) asked {
	return asked{
		g:     gridOf(2, 1, line(0, 1, capacity)),
		steps: []api.Step{sells("a", 1, 0, 2, from), sells("a", 2, 1, 2, to)},
		x:     words("1 1"), f: table(flow),
	}
}

func TestP172Lines(t *testing.T) {
	for _, capacity := range []int{0, 1, 5, 1000} {
		for _, flow := range []int{-1000, -999, -5, -4, -1, 0, 1, 4, 5, 999, 1000} {
			for _, to := range []int{-500, 19, 20, 21, 3000} {
				is := flow >= -capacity && flow <= capacity && (flow == -capacity || to >= 20) && (flow == capacity || to <= 20)
				c := between(capacity, strconv.Itoa(flow), 20, to)
				wantFind(t, fmt.Sprintf("%d of %d, from 20 to %d", flow, capacity, to), c, is)
				// The same line, laid down the other way.
				c.g.Lines[0], c.f = line(1, 0, capacity), table(strconv.Itoa(-flow))
				wantFind(t, fmt.Sprintf("%d of %d, from 20 to %d, turned", flow, capacity, to), c, is)
			}
		}
	}
	// A bit less than all.
	for flow, is := range map[string][3]bool{"5": {false, true, true}, "4999999:1000000": {false, true, false}, "1:3": {false, true, false}, "-1:3": {false, true, false}, "-4999999:1000000": {false, true, false}, "-5": {true, true, false}} {
		for i, to := range []int{19, 20, 21} {
			wantFind(t, fmt.Sprint(flow, " to ", to), between(5, flow, 20, to), is[i])
		}
	}
}

// A line draws prices together, where nothing else does.
func TestP172LinesAndNoSteps(t *testing.T) {
	c := between(5, "2", 20, 99)
	c.steps, c.x = c.steps[:1], c.x[:1]
	wantPrices(t, "as at the other end", c, "20 20")
	for _, flow := range []string{"-5", "5"} {
		c.f = table(flow)
		wantFind(t, "at most, at least", c, true)
	}
	// Two lines of three zones, and one more against them.
	c = asked{g: gridOf(3, 1, line(0, 1, 5), line(2, 1, 5)), steps: []api.Step{sells("a", 1, 2, 2, 33)}, x: words("1"), f: table("0 0")}
	wantPrices(t, "all three", c, "33 33 33")
	c = c.with(func(c *asked) {
		c.steps = append(c.steps, sells("a", 2, 0, 2, 20))
		c.x = append(c.x, "1")
	})
	wantFind(t, "two prices", c, false)
	c.f = table("5 0")
	wantPrices(t, "the first is full", c, "20 33 33")
	c.f = table("-5 0")
	wantFind(t, "it is full the other way", c, false)
	c.f = table("0 -5")
	wantPrices(t, "the second is full", c, "20 20 33")
	c.f = table("0 5")
	wantFind(t, "it is full the other way", c, false)
	// Lines side by side: each is asked.
	c = between(5, "5 0", 20, 21)
	c.g.Lines = append(c.g.Lines, line(0, 1, 5))
	wantFind(t, "one is not full", c, false)
	c.f = table("5 5")
	wantFind(t, "both are full", c, true)
	c.f = table("5 -5")
	wantFind(t, "they are full against one another", c, false)
	c.g.Lines[1] = line(1, 0, 5)
	wantFind(t, "they are full alike", c, true)
	c.g.Lines[1], c.f = line(1, 0, 0), table("5 0")
	wantFind(t, "one can carry nothing", c, true)
}

// A line's flow in an hour says nothing of the other hours.
func TestP172LinesInHours(t *testing.T) {
	for hour := range 3 {
		c := asked{g: gridOf(2, 3, line(0, 1, 5)), f: table("0/0/0")}
		for i := range 3 {
			to := 20
			if i == hour {
				to = 21
			}
			c.steps = append(c.steps, inHour(i, sells("a", 2*i, 0, 2, 20)), inHour(i, sells("a", 2*i+1, 1, 2, to)))
			c.x = append(c.x, "1", "1")
		}
		for full := range 3 {
			d := c.with(func(c *asked) { c.f[full][0] = "5" })
			wantFind(t, fmt.Sprint("dearer in ", hour, ", full in ", full), d, full == hour)
		}
	}
}

// ofBlocks has prices from 20 to 50 in each of so many hours, and blocks that
// are accepted.
func ofBlocks(hours int, blocks ...api.Block) asked {
	c := asked{g: gridOf(1, hours), blocks: blocks, accept: slices.Repeat([]bool{true}, len(blocks)), f: make([][]string, hours)}
	for hour := range hours {
		c.steps = append(c.steps, inHour(hour, sells("a", 2*hour, 0, 5, 20)), inHour(hour, buys("a", 2*hour+1, 0, 5, 50)))
		c.x = append(c.x, "5", "5")
	}
	return c
}

func TestP172BlocksOfOneHour(t *testing.T) {
	for _, qty := range []int{1, 7, 1000} {
		for own, is := range map[int][2]bool{
			-500: {true, false}, 19: {true, false}, 20: {true, true}, 35: {true, true}, 50: {true, true}, 51: {false, true}, 3000: {false, true},
		} {
			wantFind(t, fmt.Sprint("it sells at ", own), ofBlocks(1, gives("b", 1, 0, own, qty)), is[0])
			wantFind(t, fmt.Sprint("it buys at ", own), ofBlocks(1, takes("b", 1, 0, own, qty)), is[1])
		}
		wantPrices(t, "it sells at 50", ofBlocks(1, gives("b", 1, 0, 50, qty)), "50")
		wantPrices(t, "it buys at 20", ofBlocks(1, takes("b", 1, 0, 20, qty)), "20")
		// Two against one another.
		wantPrices(t, "both at 35", ofBlocks(1, gives("b", 1, 0, 35, qty), takes("b", 2, 0, 35, 3)), "35")
		wantFind(t, "30 to 40", ofBlocks(1, gives("b", 1, 0, 30, qty), takes("b", 2, 0, 40, 3)), true)
		wantFind(t, "36 to 35", ofBlocks(1, gives("b", 1, 0, 36, qty), takes("b", 2, 0, 35, 3)), false)
		// What others gain does not help.
		wantFind(t, "one loses", ofBlocks(1, gives("b", 1, 0, 51, 1), gives("b", 2, 0, -500, qty), takes("b", 3, 0, 3000, qty)), false)
	}
}

func TestP172BlocksOfSeveralHours(t *testing.T) {
	// All hours in one: at most 50 in each, at least 20.
	for _, hours := range []int{2, 3} {
		qty := []int{2, 3, 5}[:hours]
		wantPrices(t, "it sells at 50", ofBlocks(hours, gives("b", 1, 0, 50, qty...)), "50/50/50"[:3*hours-1])
		wantPrices(t, "it buys at 20", ofBlocks(hours, takes("b", 1, 0, 20, qty...)), "20/20/20"[:3*hours-1])
		wantFind(t, "it sells at 51", ofBlocks(hours, gives("b", 1, 0, 51, qty...)), false)
		wantFind(t, "it buys at 19", ofBlocks(hours, takes("b", 1, 0, 19, qty...)), false)
	}
	// A loss in one hour, a gain in the other: 20 in the first.
	first := func(blocks ...api.Block) asked {
		c := ofBlocks(2, blocks...)
		c.x[0] = "4"
		return c
	}
	for own, is := range map[int]bool{20: true, 37: true, 38: true, 39: false, 50: false} {
		wantFind(t, fmt.Sprint("2 and 3 at ", own), first(gives("b", 1, 0, own, 2, 3)), is)
	}
	wantPrices(t, "2 and 3 at 38", first(gives("b", 1, 0, 38, 2, 3)), "20/50")
	wantPrices(t, "3 and 3 at 35", first(gives("b", 1, 0, 35, 3, 3)), "20/50")
	wantFind(t, "3 and 2 at 33", first(gives("b", 1, 0, 33, 3, 2)), false)
	// 50 in the first.
	second := func(blocks ...api.Block) asked {
		c := ofBlocks(2, blocks...)
		c.x[1] = "4"
		return c
	}
	for own, is := range map[int]bool{50: true, 33: true, 32: true, 31: false, 20: false} {
		wantFind(t, fmt.Sprint("2 and 3 at ", own), second(takes("b", 1, 0, own, 2, 3)), is)
	}
	wantPrices(t, "2 and 3 at 32", second(takes("b", 1, 0, 32, 2, 3)), "50/20")
	// An hour of which it has nothing does not count.
	wantFind(t, "0 and 3 at 50", first(gives("b", 1, 0, 50, 0, 3)), true)
	wantFind(t, "3 and 0 at 21", first(gives("b", 1, 0, 21, 3, 0)), false)
	// Prices that are no whole ones.
	wantPrices(t, "1 and 2 at 31", first(gives("b", 1, 0, 31, 1, 2), takes("b", 2, 0, 31, 1, 2)), "20/73:2")
	wantPrices(t, "fractions in both", ofBlocks(2,
		gives("b", 1, 0, 31, 1, 2), takes("b", 2, 0, 31, 1, 2), gives("b", 3, 0, 33, 3, 1), takes("b", 4, 0, 33, 3, 1),
	), "171:5/147:5")
}

// Each block is asked of its own zone's prices.
func TestP172BlocksOfZones(t *testing.T) {
	for zone := range 3 {
		for dear := range 3 {
			c := asked{g: gridOf(3, 2), f: table("/"), blocks: []api.Block{gives("b", 1, zone, 21, 1, 1), takes("b", 2, zone, 19, 1, 1)}, accept: marks("x.")}
			for at := range 6 {
				p := 20
				if at%3 == dear {
					p = 21
				}
				c.steps, c.x = append(c.steps, inHour(at/3, sells("a", at, at%3, 2, p))), append(c.x, "1")
			}
			wantFind(t, fmt.Sprint("sells in ", zone, ", dear in ", dear), c, zone == dear)
			c.accept = marks(".x")
			for i := range c.steps {
				c.steps[i].Price = 40 - c.steps[i].Price
			}
			wantFind(t, fmt.Sprint("buys in ", zone, ", cheap in ", dear), c, zone == dear)
		}
	}
	// Lines hand on what a block asks.
	c := asked{g: gridOf(2, 1, line(0, 1, 5)), f: table("0"), blocks: []api.Block{gives("b", 1, 1, 40, 3)}, accept: marks("x")}
	c.steps, c.x = []api.Step{buys("a", 1, 0, 2, 40)}, words("2")
	wantPrices(t, "the line is not full", c, "40 40")
	c.steps[0].Price = 39
	wantFind(t, "the line is not full", c, false)
	c.f = table("5")
	wantFind(t, "the line is full", c, true)
	c.f = table("-5")
	wantFind(t, "the line is full the other way", c, false)
}

func TestP172Rich(t *testing.T) {
	wantPrices(t, "rich", rich(), "20 50/30 30")
	wantFind(t, "a block's price", rich().with(func(c *asked) { c.blocks[0].Price = 39 }), false)
	wantFind(t, "the other one's", rich().with(func(c *asked) { c.blocks[1].Price = 20 }), true)
	wantFind(t, "the other one's", rich().with(func(c *asked) { c.blocks[1].Price = 19 }), false)
	wantFind(t, "one that would lose is accepted, too", rich().with(func(c *asked) { c.accept[2] = true }), false)
	wantFind(t, "one that would just not lose", rich().with(func(c *asked) { c.accept[2], c.blocks[2].Price = true, 25 }), true)
}

// Neither what is linked nor what is even is asked.
func TestP172NotAsked(t *testing.T) {
	c := rich().with(func(c *asked) {
		c.blocks[1].Parent = 3
		c.blocks[0].Group, c.blocks[1].Group = 4, 4
	})
	if result.Linked(c.blocks, c.accept) {
		t.Error(c)
	}
	wantPrices(t, "not linked", c, "20 50/30 30")
	c = rich().with(func(c *asked) { c.x = words("1 1 1 6") })
	if isEven(c) {
		t.Error(c)
	}
	wantPrices(t, "not even", c, "20 50/30 30")
}

// The limits of all numbers at once.
func TestP172Greatest(t *testing.T) {
	c := asked{g: gridOf(3, 3, line(0, 1, 1000), line(1, 2, 1000), line(0, 2, 1000)), f: table("1000 1000 1000/-1000 -1000 -1000/999 999 999")}
	c.g.Low, c.g.High = -100000, 100000
	for i := range 32 {
		s := inHour(i%3, sells("a", i, i/3%3, 1000, -100000))
		s.Buy = i%2 == 0
		if s.Buy {
			s.Price = 100000
		}
		c.steps, c.x = append(c.steps, s), append(c.x, "1000")
	}
	for i := range 12 {
		b := gives("a", i, i%3, 99999-i, 1000, 1000-i, 999)
		if i >= 6 {
			b = takes("a", i, i%3, 99999+i%2, 1000, 1000-i, 999)
		}
		c.blocks, c.accept = append(c.blocks, b), append(c.accept, true)
	}
	wantFind(t, "all", c, hasPrices(c))
	wantFind(t, "just", c.with(func(c *asked) {
		for i := range c.blocks {
			c.blocks[i].Price = 100000
		}
	}), true)
	wantFind(t, "Low", c.with(func(c *asked) {
		for i := range c.blocks {
			c.blocks[i].Price, c.blocks[i].Buy = -100000, true
		}
	}), true)
	wantFind(t, "one loses", c.with(func(c *asked) {
		c.blocks[0].Price, c.blocks[6].Price = 100000, 99999
		c.blocks[6].Qty = slices.Clone(c.blocks[0].Qty)
	}), false)
}

func TestP173Fewer(t *testing.T) {
	c := ofBlocks(2, gives("b", 1, 0, 35, 2, 3), takes("b", 2, 0, 35, 3, 2), gives("b", 3, 0, 34, 1, 0), takes("b", 4, 0, 36, 0, 9))
	for set := range 16 {
		for i := range c.accept {
			c.accept[i] = set>>i&1 > 0
		}
		wantFind(t, fmt.Sprint(c.accept), c, true)
	}
	// One alone is in the way: with it there are none, without it there are.
	for spoil := range 4 {
		d := c.with(func(c *asked) {
			c.blocks[spoil].Price, c.blocks[spoil].Buy = 3000, false
		})
		for set := range 16 {
			for i := range d.accept {
				d.accept[i] = set>>i&1 > 0
			}
			wantFind(t, fmt.Sprint(d.accept, ", ", spoil, " loses"), d, !d.accept[spoil])
		}
	}
	for accept, is := range map[string]bool{"xx.": true, "x..": true, ".x.": true, "...": true, "xxx": false, "..x": false, "x.x": false, ".xx": false} {
		wantFind(t, accept, rich().with(func(c *asked) { c.accept = marks(accept) }), is)
	}
}
