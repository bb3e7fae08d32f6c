package result_test

import (
	"fmt"
	"slices"
	"strconv"
	"strings"
	"testing"

	"noonbell/api"
	"noonbell/result"
)

// gridOf is one whose prices are from -500 to 3000.
func gridOf(zones, hours int, lines ...api.Line) api.Grid {
	return api.Grid{Zones: zones, Hours: hours, Lines: lines, Low: -500, High: 3000}
}

func line(from, to, capacity int) api.Line {
	return api.Line{From: from, To: to, Cap: capacity}
}

// sells and buys are steps of hour 0.
func sells(who string, seq, zone, qty, price int) api.Step {
	return api.Step{Who: who, Seq: seq, Zone: zone, Qty: qty, Price: price}
}

func buys(who string, seq, zone, qty, price int) api.Step {
	return api.Step{Who: who, Seq: seq, Zone: zone, Buy: true, Qty: qty, Price: price}
}

// inHour is the step in that hour.
func inHour(hour int, s api.Step) api.Step {
	s.Hour = hour
	return s
}

// gives and takes are blocks.
func gives(who string, seq, zone, price int, qty ...int) api.Block {
	return api.Block{Who: who, Seq: seq, Zone: zone, Price: price, Qty: qty}
}

func takes(who string, seq, zone, price int, qty ...int) api.Block {
	return api.Block{Who: who, Seq: seq, Zone: zone, Buy: true, Price: price, Qty: qty}
}

// table is hour by hour, with / between: the numbers of each have blanks
// between, and of a number's bar a colon.
func table(hours string) [][]string {
	var l [][]string
	for hour := range strings.SplitSeq(hours, "/") {
		l = append(l, words(hour))
	}
	return l
}

func words(line string) []string {
	l := []string{}
	for word := range strings.FieldsSeq(line) {
		l = append(l, strings.ReplaceAll(word, ":", "/"))
	}
	return l
}

// published is a result, and what it is a result of.
type published struct {
	g      api.Grid
	steps  []api.Step
	blocks []api.Block
	r      api.Result
}

// example is the document's: a sells 10 at 20, b buys 6 at 50.
func example() published {
	return published{
		api.Grid{Zones: 1, Hours: 1, High: 100},
		[]api.Step{sells("a", 1, 0, 10, 20), buys("b", 1, 0, 6, 50)},
		nil,
		api.Result{X: words("6 6"), F: table(""), P: table("20"), Welfare: "180", Upper: "180", Optimal: true},
	}
}

// rich has two zones, two hours, a line that is full in the first of them, one
// that can carry nothing, and blocks of which the first just does not lose.
func rich() published {
	child := takes("c", 2, 0, 25, 1, 0)
	child.Parent, child.Group = 1, 1
	other := takes("c", 3, 0, 10, 1, 1)
	other.Group = 1
	return published{
		gridOf(2, 2, line(0, 1, 5), line(1, 0, 0)),
		[]api.Step{
			sells("a", 1, 0, 10, 20), inHour(1, sells("a", 2, 0, 10, 30)),
			buys("b", 1, 1, 8, 50), inHour(1, buys("b", 2, 1, 6, 60)),
		},
		[]api.Block{gives("c", 1, 1, 38, 2, 3), child, other},
		api.Result{
			Accept:  marks("xx."),
			X:       words("6 3 7 6"),
			F:       table("5 0/3 0"),
			P:       table("20 50/30 30"),
			Welfare: "335", Upper: "400", Nodes: 7,
		},
	}
}

// copied shares no lists with it.
func (c published) copied() published {
	c.g.Lines, c.steps, c.blocks = slices.Clone(c.g.Lines), slices.Clone(c.steps), slices.Clone(c.blocks)
	for i, b := range c.blocks {
		c.blocks[i].Qty = slices.Clone(b.Qty)
	}
	c.r.Accept, c.r.X = slices.Clone(c.r.Accept), slices.Clone(c.r.X)
	c.r.F, c.r.P = copiedTable(c.r.F), copiedTable(c.r.P)
	return c
}

func copiedTable(l [][]string) [][]string {
	l = slices.Clone(l)
	for i := range l {
		l[i] = slices.Clone(l[i])
	}
	return l
}

// with is one that is changed.
func (c published) with(changes ...func(c *published)) published {
	c = c.copied()
	for _, change := range changes {
		change(&c)
	}
	return c
}

func (c published) check() int { return result.Check(c.g, c.steps, c.blocks, c.r) }

func wantCheck(t *testing.T, what string, c published, number int) {
	t.Helper()
	for range 2 {
		if got := c.check(); got != number {
			t.Errorf("%s: %d, not %d: %+v", what, got, number, c)
		}
	}
	// The model says the same of it.
	if n := broken(c); n != number {
		t.Errorf("%s: %d by the model, not %d: %+v", what, n, number, c)
	}
}

func TestP164Examples(t *testing.T) {
	wantCheck(t, "the first", example(), 0)
	wantCheck(t, "the second", example().with(func(c *published) { c.r.P[0][0] = "30" }), 5)
	wantCheck(t, "the third", example().with(func(c *published) { c.r.X[1] = "5" }), 4)
	// DOC.md's seventh and eighth.
	more := example().with(func(c *published) {
		c.blocks = []api.Block{takes("c", 1, 0, 30, 4)}
		c.r.Accept, c.r.X, c.r.Welfare, c.r.Upper = marks("x"), words("10 6"), "220", "220"
	})
	for price, n := range map[string]int{"19": 5, "20": 0, "25": 0, "30": 0, "301:10": 8, "31": 8, "50": 8, "51": 5} {
		wantCheck(t, price, more.with(func(c *published) { c.r.P = table(price) }), n)
	}
	less := example().with(func(c *published) {
		c.blocks, c.r.Accept = []api.Block{gives("c", 1, 0, 0, 20)}, marks(".")
	})
	wantCheck(t, "not accepted", less, 0)
	wantCheck(t, "accepted", less.with(func(c *published) { c.r.Accept = marks("x") }), 4)
}

func TestP164Nothing(t *testing.T) {
	for zones := 1; zones <= 3; zones++ {
		for hours := 1; hours <= 3; hours++ {
			c := published{g: gridOf(zones, hours)}
			c.r.Welfare, c.r.Upper, c.r.Optimal = "0", "0", true
			for hour := range hours {
				c.r.F = append(c.r.F, nil)
				c.r.P = append(c.r.P, slices.Repeat([]string{"0"}, zones))
				c.r.P[hour][zones-1] = "3000"
			}
			wantCheck(t, "no orders", c, 0)
		}
	}
	wantCheck(t, "nothing", published{}, 1)
	wantCheck(t, "no lists", published{g: gridOf(1, 1)}, 1)
}

func TestP164Rich(t *testing.T) {
	c := rich()
	wantCheck(t, "rich", c, 0)
	// What is not spoken of.
	wantCheck(t, "no nodes", c.with(func(c *published) { c.r.Nodes = 0 }), 0)
	wantCheck(t, "many nodes", c.with(func(c *published) { c.r.Nodes = greatest }), 0)
	wantCheck(t, "optimal", c.with(func(c *published) { c.r.Optimal, c.r.Upper = true, "335" }), 0)
}

// breaks are, of each rule, changes of rich that break that alone, or those
// behind it, too.
func breaks() map[int][]func(c *published) {
	return map[int][]func(c *published){
		1:  {func(c *published) { c.r.Nodes = -1 }},
		2:  {func(c *published) { c.r.X[0] = "x" }},
		3:  {func(c *published) { c.r.X[1] = "11" }},
		4:  {func(c *published) { c.r.F[1][0] = "2" }},
		5:  {func(c *published) { c.r.P[0][1] = "51" }},
		6:  {func(c *published) { c.r.P[1][1] = "31" }},
		7:  {func(c *published) { c.blocks[1].Parent = 3 }},
		8:  {func(c *published) { c.blocks[0].Price = 39 }},
		9:  {func(c *published) { c.r.Welfare = "336" }},
		10: {func(c *published) { c.r.Upper = "334" }},
	}
}

func TestP164TheFirstIsTold(t *testing.T) {
	l := breaks()
	for first := 1; first <= 10; first++ {
		wantCheck(t, "alone", rich().with(l[first]...), first)
		for second := first + 1; second <= 10; second++ {
			wantCheck(t, fmt.Sprint(first, " and ", second), rich().with(append(l[second], l[first]...)...), first)
			for third := second + 1; third <= 10; third++ {
				wantCheck(t, fmt.Sprint(first, second, third), rich().with(slices.Concat(l[third], l[second], l[first])...), first)
			}
		}
	}
}

func TestP164R1Orders(t *testing.T) {
	for what, change := range map[string]func(c *published){
		"a grid":             func(c *published) { c.g.Low = 3001 },
		"a zone":             func(c *published) { c.steps[0].Zone = 2 },
		"an hour":            func(c *published) { c.steps[0].Hour = -1 },
		"a step of nothing":  func(c *published) { c.steps[3].Qty = 0 },
		"a step's price":     func(c *published) { c.steps[3].Price = 3001 },
		"steps that fall":    func(c *published) { c.steps[2].Seq = 3 },
		"a block's hours":    func(c *published) { c.blocks[2].Qty = []int{1} },
		"a block of nothing": func(c *published) { c.blocks[2].Qty = []int{0, 0} },
		"a block's price":    func(c *published) { c.blocks[2].Price = -501 },
		"blocks that fall":   func(c *published) { c.blocks[2].Who = "b" },
		"no parent":          func(c *published) { c.blocks[2].Parent = 4 },
		"its own parent":     func(c *published) { c.blocks[2].Parent = 3 },
	} {
		wantCheck(t, what, rich().with(change), 1)
	}
}

func TestP164R1Lengths(t *testing.T) {
	// Each list, one too many and one too few.
	lists := map[string]func(c *published, by int){
		"Accept": func(c *published, by int) { c.r.Accept = resized(c.r.Accept, by) },
		"X":      func(c *published, by int) { c.r.X = resized(c.r.X, by) },
		"F":      func(c *published, by int) { c.r.F = resized(c.r.F, by) },
		"P":      func(c *published, by int) { c.r.P = resized(c.r.P, by) },
		"F 0":    func(c *published, by int) { c.r.F[0] = resized(c.r.F[0], by) },
		"F 1":    func(c *published, by int) { c.r.F[1] = resized(c.r.F[1], by) },
		"P 0":    func(c *published, by int) { c.r.P[0] = resized(c.r.P[0], by) },
		"P 1":    func(c *published, by int) { c.r.P[1] = resized(c.r.P[1], by) },
	}
	for what, resize := range lists {
		for by := -3; by <= 3; by++ {
			number := 1
			if by == 0 {
				number = 0
			}
			wantCheck(t, fmt.Sprint(what, " by ", by), rich().with(func(c *published) { resize(c, by) }), number)
		}
	}
	// As many in all, but not in each.
	wantCheck(t, "F's", rich().with(func(c *published) { c.r.F = table("5 0 3/0") }), 1)
	wantCheck(t, "P's", rich().with(func(c *published) { c.r.P = table("20/50 30 30") }), 1)
	wantCheck(t, "other hours", rich().with(func(c *published) { c.r.F, c.r.P = c.r.F[:1], c.r.P[:1] }), 1)
	// None at all.
	for what, change := range map[string]func(c *published){
		"Accept": func(c *published) { c.r.Accept = nil },
		"X":      func(c *published) { c.r.X = nil },
		"F":      func(c *published) { c.r.F = nil },
		"P":      func(c *published) { c.r.P = nil },
		"F's":    func(c *published) { c.r.F = make([][]string, 2) },
		"P's":    func(c *published) { c.r.P = make([][]string, 2) },
	} {
		wantCheck(t, what, rich().with(change), 1)
	}
}

// resized has so many more elements, or fewer: none, if it has not so many.
func resized[E any](l []E, by int) []E {
	if by > 0 {
		return append(l, slices.Repeat(l[:1], by)...)
	}
	return l[:max(0, len(l)+by)]
}

func TestP164R1Nodes(t *testing.T) {
	for n, number := range map[int]int{least: 1, -2: 1, -1: 1, 0: 0, 1: 0, greatest: 0} {
		wantCheck(t, fmt.Sprint(n), rich().with(func(c *published) { c.r.Nodes = n }), number)
		wantCheck(t, fmt.Sprint(n), example().with(func(c *published) { c.r.Nodes = n }), number)
	}
}

// texts are all of a result's.
func (c *published) texts() []*string {
	l := []*string{&c.r.Welfare, &c.r.Upper}
	for i := range c.r.X {
		l = append(l, &c.r.X[i])
	}
	for _, t := range [][][]string{c.r.F, c.r.P} {
		for i := range t {
			for j := range t[i] {
				l = append(l, &t[i][j])
			}
		}
	}
	return l
}

func TestP164R2(t *testing.T) {
	c := rich()
	for i := range c.texts() {
		for _, text := range noNumbers() {
			wantCheck(t, fmt.Sprintf("text %d is %q", i, text), c.with(func(c *published) { *c.texts()[i] = text }), 2)
		}
	}
	if len(c.texts()) != 14 {
		t.Error(c)
	}
}

func TestP164R3Quantities(t *testing.T) {
	c := rich()
	for i, s := range c.steps {
		qty := strconv.Itoa(s.Qty)
		for text, is := range map[string]bool{
			"-1": false, "-1/1000000000000": false, "0": true, "1/3": true, qty: true,
			strconv.Itoa(s.Qty + 1): false, strconv.Itoa(1000000*s.Qty+1) + "/1000000": false, "1000000000000000000000": false, "-1000000000000000000000": false,
		} {
			wantWithin(t, fmt.Sprintf("X %d is %s", i, text), c.with(func(c *published) { c.r.X[i] = text }), is)
		}
	}
}

// wantWithin holds that R3 is the first that is broken, or none up to it is.
func wantWithin(t *testing.T, what string, c published, is bool) {
	t.Helper()
	n := c.check()
	if is && n > 0 && n <= 3 || !is && n != 3 {
		t.Errorf("%s: %d", what, n)
	}
	wantCheck(t, what, c, n)
}

func TestP164R3Flows(t *testing.T) {
	for _, capacity := range []int{0, 5, 1000} {
		c := rich().with(func(c *published) { c.g.Lines[0].Cap = capacity })
		bound := strconv.Itoa(capacity)
		beyond := strconv.Itoa(1000000*capacity+1) + "/1000000"
		for hour := range 2 {
			for text, is := range map[string]bool{"0": true, bound: true, beyond: false, "-" + beyond: false, strconv.Itoa(-capacity): true, strconv.Itoa(-capacity - 1): false, strconv.Itoa(capacity + 1): false} {
				// The other hour's must be within, too.
				wantWithin(t, fmt.Sprintf("Cap %d, F of hour %d is %s", capacity, hour, text), c.with(func(c *published) {
					c.r.F = table("0 0/0 0")
					c.r.F[hour][0] = text
				}), is)
			}
			wantWithin(t, "a line of Cap 0", c.with(func(c *published) {
				c.r.F = table("0 0/0 0")
				c.r.F[hour][1] = "1/1000"
			}), false)
		}
	}
}

func TestP164R3Prices(t *testing.T) {
	for _, g := range priced() {
		// Nobody has asked for anything: any price that there may be fits.
		for _, number := range []string{"-100001", "-100000", "-500", "-1", "0", "1", "7", "3000", "100000", "100001", "1/2", "-1/2", "999999999/10000", "-1000001/10", "6000001/2000", "-1000001/2000"} {
			c := published{g: g, r: api.Result{F: table(""), P: [][]string{{number}}, Welfare: "0", Upper: "0"}}
			is := ratOf(number).Cmp(bigOf(g.Low)) >= 0 && ratOf(number).Cmp(bigOf(g.High)) <= 0
			wantWithin(t, fmt.Sprintf("a price of %s, of %d to %d", number, g.Low, g.High), c, is)
			if n := c.check(); is && n != 0 {
				t.Errorf("a price of %s, of %d to %d: %d", number, g.Low, g.High, n)
			}
		}
	}
	// In each hour and zone.
	for hour := range 2 {
		for zone := range 2 {
			for _, text := range []string{"3001", "-501"} {
				wantCheck(t, "a price", rich().with(func(c *published) { c.r.P[hour][zone] = text }), 3)
			}
		}
	}
}

func TestP164R4(t *testing.T) {
	for what, change := range map[string]func(c *published){
		"a step gives less":          func(c *published) { c.r.X[0] = "5" },
		"a step gives a bit more":    func(c *published) { c.r.X[1] = "3000001/1000000" },
		"a step takes less":          func(c *published) { c.r.X[2] = "13/2" },
		"a step takes nothing":       func(c *published) { c.r.X[3] = "0" },
		"a block that is not there":  func(c *published) { c.r.Accept[1] = false },
		"a block that is there":      func(c *published) { c.r.Accept[2] = true },
		"another block":              func(c *published) { c.r.Accept = marks("x.x") },
		"none of the blocks":         func(c *published) { c.r.Accept = marks("...") },
		"a block of another side":    func(c *published) { c.blocks[0].Buy = true },
		"a block of another zone":    func(c *published) { c.blocks[0].Zone = 0 },
		"a block of other hours":     func(c *published) { c.blocks[0].Qty = []int{3, 2} },
		"a step of another side":     func(c *published) { c.steps[0].Buy = true },
		"a step of another zone":     func(c *published) { c.steps[1].Zone = 1 },
		"a step of another hour":     func(c *published) { c.steps[1].Hour = 0 },
		"a flow the other way":       func(c *published) { c.r.F[0][0] = "-5" },
		"less flows":                 func(c *published) { c.r.F[1][0] = "2" },
		"nothing flows":              func(c *published) { c.r.F[0][0] = "0" },
		"flows of the other hour":    func(c *published) { c.r.F[0], c.r.F[1] = c.r.F[1], c.r.F[0] },
		"the line is another's":      func(c *published) { c.r.F[1][0], c.r.F[1][1], c.g.Lines[1].Cap = "0", "3", 5 },
		"it is the line's other end": func(c *published) { c.g.Lines[0] = line(1, 0, 5) },
	} {
		wantCheck(t, what, rich().with(change), 4)
	}
	// Taken by a line that goes the other way instead.
	wantCheck(t, "the other line", rich().with(func(c *published) { c.r.F[1][0], c.r.F[1][1], c.g.Lines[1].Cap = "0", "-3", 5 }), 6)
}

// What is short in one place and over in another one sums to nothing; each zone
// and hour is asked all the same.
func TestP164R4EachZoneAndHour(t *testing.T) {
	c := published{g: gridOf(3, 3), r: api.Result{F: table("//"), P: table("10 10 10/10 10 10/10 10 10"), Welfare: "0", Upper: "0"}}
	for i := range 9 {
		zone, hour := i%3, i/3
		c.steps = append(c.steps, inHour(hour, sells("a", i+1, zone, 2, 10)), inHour(hour, buys("b", i+1, zone, 2, 10)))
		c.r.X = append(c.r.X, "1", "1")
	}
	slices.SortStableFunc(c.steps, func(a, b api.Step) int { return strings.Compare(a.Who, b.Who) })
	wantCheck(t, "all even", c, 0)
	for i := range 9 {
		for j := range 9 {
			// One gives more, another one takes more.
			d := c.with(func(c *published) { c.r.X[i], c.r.X[9+j] = "3/2", "3/2" })
			number := 4
			if i == j {
				number = 0
			}
			wantCheck(t, fmt.Sprint(i, j), d, number)
		}
	}
}

// A step of 4 at 30, all of what is taken being a block's.
func ofStep(buy bool, taken int, price string) published {
	c := published{g: gridOf(1, 1), steps: []api.Step{{Who: "a", Seq: 1, Buy: buy, Qty: 4, Price: 30}}}
	c.r = api.Result{X: []string{strconv.Itoa(taken)}, F: table(""), P: [][]string{{price}}}
	sign := 1
	if !buy {
		sign = -1
	}
	if taken > 0 {
		// It gains at any price.
		b := api.Block{Who: "b", Seq: 1, Buy: !buy, Price: -500, Qty: []int{taken}}
		if !buy {
			b.Price = 3000
		}
		c.blocks, c.r.Accept = []api.Block{b}, marks("x")
		c.r.Welfare = strconv.Itoa(sign * taken * (30 - b.Price))
	} else {
		c.r.Welfare = "0"
	}
	c.r.Upper = c.r.Welfare
	return c
}

func TestP164R5(t *testing.T) {
	for price, above := range map[string]int{
		"-500": -1, "29": -1, "29999999/1000000": -1, "30": 0, "30000001/1000000": 1, "31": 1, "3000": 1,
	} {
		for taken := range 5 {
			for _, buy := range []bool{false, true} {
				// Who sells has all above its price, who buys below it.
				gain := above
				if buy {
					gain = -above
				}
				number := 0
				if gain > 0 && taken < 4 || gain < 0 && taken > 0 {
					number = 5
				}
				wantCheck(t, fmt.Sprint(buy, taken, " at ", price), ofStep(buy, taken, price), number)
			}
		}
	}
	// By a fraction less than all, and more than none.
	c := example()
	c.steps[1].Qty = 10
	for taken, prices := range map[string][5]int{"0": {5, 0, 0, 0, 5}, "1:1000000": {5, 0, 5, 5, 5}, "9999999:1000000": {5, 0, 5, 5, 5}, "10": {5, 0, 0, 0, 5}} {
		for i, price := range []string{"19", "20", "35", "20000001:1000000", "51"} {
			// The one that buys has all or none alike, and pays just what it would.
			d := c.with(func(c *published) {
				c.steps[1].Price = 20
				if taken == "10" {
					c.steps[1].Price = 50
				}
				c.r.X, c.r.P = words(taken+" "+taken), table(price)
				c.r.Optimal = false
			})
			n := prices[i]
			if taken == "0" && i > 1 {
				n = 5
			}
			d.r.Welfare = worth(d.steps, ratsOf(d.r.X)).RatString()
			d.r.Upper = d.r.Welfare
			wantCheck(t, fmt.Sprint(taken, " at ", price), d, n)
		}
	}
}

// Each step's price is that of its own zone and hour.
func TestP164R5EachStep(t *testing.T) {
	for hour := range 3 {
		for zone := range 3 {
			for _, buy := range []bool{false, true} {
				c := published{g: gridOf(3, 3), r: api.Result{X: words("0"), F: table("//"), Welfare: "0", Upper: "0"}}
				c.steps = []api.Step{{Who: "a", Seq: 1, Zone: zone, Hour: hour, Buy: buy, Qty: 1, Price: 10}}
				for at := range 9 {
					c.r.P = table("10 10 10/10 10 10/10 10 10")
					c.r.P[at/3][at%3] = "11"
					if buy {
						c.r.P[at/3][at%3] = "9"
					}
					number := 0
					if at/3 == hour && at%3 == zone {
						number = 5
					}
					wantCheck(t, fmt.Sprint(hour, zone, buy, at), c, number)
				}
			}
		}
	}
}

// across is a flow between two zones, of which who sells and who buys in each
// has just some, at the price there.
func across(capacity, flow, from, to int) published {
	c := published{g: gridOf(2, 1, line(0, 1, capacity))}
	c.steps = []api.Step{sells("a", 1, 0, 2000, from), buys("a", 2, 0, 2000, from), sells("b", 1, 1, 2000, to), buys("b", 2, 1, 2000, to)}
	for i := range c.steps {
		c.steps[i].Qty = 1000
	}
	text := strconv.Itoa(max(flow, -flow))
	c.r = api.Result{X: words("0 0 0 0"), F: [][]string{{strconv.Itoa(flow)}}, P: [][]string{{strconv.Itoa(from), strconv.Itoa(to)}}}
	if flow > 0 {
		c.r.X[0], c.r.X[3] = text, text
	} else {
		c.r.X[1], c.r.X[2] = text, text
	}
	c.r.Welfare = strconv.Itoa(flow * (to - from))
	c.r.Upper = c.r.Welfare
	return c
}

func TestP164R6(t *testing.T) {
	for _, capacity := range []int{0, 1, 5, 1000} {
		for _, flow := range []int{-1000, -999, -5, -4, -1, 0, 1, 4, 5, 999, 1000} {
			for _, to := range []int{-500, 19, 20, 21, 3000} {
				number := 0
				switch {
				case flow > capacity || flow < -capacity:
					number = 3
				case flow > -capacity && to < 20 || flow < capacity && to > 20:
					number = 6
				}
				wantCheck(t, fmt.Sprintf("%d of %d, from 20 to %d", flow, capacity, to), across(capacity, flow, 20, to), number)
			}
		}
	}
}

func TestP164R6Fractions(t *testing.T) {
	c := across(1, 1, 20, 21)
	for i, f := range []string{"1", "999999/1000000", "1/3"} {
		number := 6
		if i == 0 {
			number = 0
		}
		for _, turned := range []bool{false, true} {
			d := c.with(func(c *published) {
				c.r.X[0], c.r.X[3], c.r.F[0][0], c.r.Welfare, c.r.Upper = f, f, f, f, f
				if turned {
					c.g.Lines[0], c.r.F[0][0] = line(1, 0, 1), "-"+f
				}
			})
			wantCheck(t, f, d, number)
		}
	}
	// Prices that differ by a bit.
	d := across(5, 3, 20, 20)
	d.steps[2].Price, d.steps[3].Price = 21, 21
	d.r.X[3], d.r.X[0], d.r.F[0][0] = "0", "0", "0"
	d.r.Welfare, d.r.Upper = "0", "0"
	d.steps = d.steps[:2]
	d.r.X = d.r.X[:2]
	for price, number := range map[string]int{"20": 0, "20000001:1000000": 6, "19999999:1000000": 6} {
		wantCheck(t, price, d.with(func(c *published) { c.r.P = table("20 " + price) }), number)
	}
}

// Each line in each hour, by the prices of its own zones.
func TestP164R6EachLine(t *testing.T) {
	g := gridOf(3, 3, line(0, 1, 5), line(2, 1, 0), line(2, 0, 7))
	c := published{g: g, r: api.Result{F: table("0 0 0/0 0 0/0 0 0"), P: table("3 3 3/4 4 4/5 5 5"), Welfare: "0", Upper: "0"}}
	wantCheck(t, "all the same", c, 0)
	for hour := range 3 {
		for zone := range 3 {
			for _, text := range []string{"2", "6"} {
				wantCheck(t, fmt.Sprint(hour, zone, text), c.with(func(c *published) { c.r.P[hour][zone] = text }), 6)
				// A line that can carry nothing joins no prices.
				d := c.with(func(c *published) {
					c.g.Lines[0].Cap, c.g.Lines[2].Cap = 0, 0
					c.r.P[hour][zone] = text
				})
				wantCheck(t, fmt.Sprint("cut ", hour, zone, text), d, 0)
			}
		}
	}
}

// linked are two blocks that give 2 and two that take 2, all at the price.
func linked(accept string) published {
	c := published{g: gridOf(1, 1)}
	c.blocks = []api.Block{gives("a", 1, 0, 30, 2), takes("a", 2, 0, 30, 2), gives("b", 1, 0, 30, 2), takes("b", 2, 0, 30, 2)}
	c.r = api.Result{Accept: marks(accept), F: table(""), P: table("30"), Welfare: "0", Upper: "0", Optimal: true}
	return c
}

func TestP164R7(t *testing.T) {
	for _, accept := range []string{"....", "xx..", "..xx", "x..x", ".xx.", "xxxx"} {
		wantCheck(t, accept, linked(accept), 0)
		parent := linked(accept).with(func(c *published) { c.blocks[1].Parent = 1 })
		group := linked(accept).with(func(c *published) { c.blocks[2].Group, c.blocks[3].Group = 4, 4 })
		below := linked(accept).with(func(c *published) { c.blocks[0].Parent, c.blocks[2].Group, c.blocks[3].Group = -2, -4, -4 })
		both := linked(accept).with(func(c *published) { c.blocks[0].Group, c.blocks[3].Group = 4, 4 })
		number := func(isBroken bool) int {
			if isBroken {
				return 7
			}
			return 0
		}
		wantCheck(t, "parent "+accept, parent, number(accept == ".xx."))
		wantCheck(t, "group "+accept, group, number(accept[2:] == "xx"))
		wantCheck(t, "below 0 "+accept, below, 0)
		wantCheck(t, "of two "+accept, both, 0)
	}
}

func TestP164R8(t *testing.T) {
	for price, number := range map[string]int{"29": 8, "29999999:1000000": 8, "30": 0, "30000001:1000000": 8, "31": 8} {
		wantCheck(t, price, linked("xxxx").with(func(c *published) { c.r.P = table(price) }), number)
		wantCheck(t, price, linked("x..x").with(func(c *published) { c.r.P = table(price) }), number)
		// One that is not accepted may miss a gain, or a loss.
		wantCheck(t, price, linked("....").with(func(c *published) { c.r.P = table(price) }), 0)
	}
	// Each of them alone: what the others gain does not help.
	for i := range 4 {
		for by := -1; by <= 1; by++ {
			c := linked("xxxx").with(func(c *published) { c.blocks[i].Price += by })
			sign := 1
			if !c.blocks[i].Buy {
				sign = -1
			}
			c.r.Welfare = strconv.Itoa(2 * sign * by)
			c.r.Upper = c.r.Welfare
			number := 0
			if sign*by < 0 {
				number = 8
			}
			wantCheck(t, fmt.Sprint(i, by), c, number)
		}
	}
	// All hours in one: a loss in one, a gain in the other.
	for _, price := range []int{37, 38, 39} {
		c := rich().with(func(c *published) {
			c.blocks[0].Price = price
			c.r.Welfare = strconv.Itoa(525 - 5*price)
		})
		number := 0
		if price > 38 {
			number = 8
		}
		wantCheck(t, fmt.Sprint(price), c, number)
	}
}

func TestP164R9(t *testing.T) {
	for text, number := range map[string]int{"334": 9, "334999/1000": 9, "335": 0, "335001/1000": 9, "336": 9, "0": 9, "-335": 9, "400": 9, "500": 9, "-165": 9} {
		wantCheck(t, text, rich().with(func(c *published) { c.r.Welfare = text }), number)
	}
	// Fractions, and below 0.
	c := example().with(func(c *published) {
		c.steps[0].Qty = 6
		c.steps[1].Price = -7
		c.steps[0].Price = -7
		c.g.Low = -500
		c.r.X, c.r.P = words("1:3 1:3"), table("-7")
		c.r.Welfare, c.r.Upper = "0", "0"
	})
	wantCheck(t, "all even", c, 0)
	wantCheck(t, "of no less", c.with(func(c *published) { c.r.Welfare = "1/3" }), 9)
}

func TestP164R10(t *testing.T) {
	for upper, above := range map[string]int{"0": -1, "-335": -1, "334": -1, "334999/1000": -1, "335": 0, "335001/1000": 1, "336": 1, "100000000000000000000": 1} {
		for _, optimal := range []bool{false, true} {
			number := 0
			if above < 0 || optimal && above > 0 {
				number = 10
			}
			wantCheck(t, fmt.Sprint(upper, optimal), rich().with(func(c *published) { c.r.Upper, c.r.Optimal = upper, optimal }), number)
		}
	}
}
