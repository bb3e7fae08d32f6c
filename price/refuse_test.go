package price_test

import (
	"fmt"
	"reflect"
	"slices"
	"strconv"
	"testing"
	"time"

	"noonbell/api"
	"noonbell/price"
)

// wantNeither holds that nothing is told, at any place.
func wantNeither(t *testing.T, what string, c asked) {
	t.Helper()
	for hour := range 2 {
		for zone := range 2 {
			wantBounds(t, c, hour, zone, 0, 0, false)
		}
	}
	wantFind(t, what, c, false)
}

// wantBoundsAlone holds that Bounds does not ask for what Find does.
func wantBoundsAlone(t *testing.T, what string, c asked) {
	t.Helper()
	wantBounds(t, c, 0, 0, 20, 20, true)
	wantBounds(t, c, 1, 1, -500, 60, true)
	wantFind(t, what, c, false)
}

func TestP17Orders(t *testing.T) {
	for what, change := range map[string]func(c *asked){
		"no grid":            func(c *asked) { c.g = api.Grid{} },
		"no price":           func(c *asked) { c.g.Low = 3001 },
		"a price of a grid":  func(c *asked) { c.g.High = 100001 },
		"too many zones":     func(c *asked) { c.g.Zones = 4 },
		"far too many zones": func(c *asked) { c.g.Zones = greatest },
		"far too many hours": func(c *asked) { c.g.Hours = greatest },
		"a line":             func(c *asked) { c.g.Lines[1].To = 2 },
		"a line to itself":   func(c *asked) { c.g.Lines[1].To = 1 },
		"a line's Cap":       func(c *asked) { c.g.Lines[0].Cap = 1001 },
		"a zone":             func(c *asked) { c.steps[0].Zone = 2 },
		"a zone below":       func(c *asked) { c.steps[3].Zone = -1 },
		"an hour":            func(c *asked) { c.steps[0].Hour = 2 },
		"an hour below":      func(c *asked) { c.steps[0].Hour = -1 },
		"a step of nothing":  func(c *asked) { c.steps[3].Qty, c.x[3] = 0, "0" },
		"a step of less":     func(c *asked) { c.steps[3].Qty, c.x[3] = -1, "-1" },
		"a step of too much": func(c *asked) { c.steps[3].Qty, c.x[3] = 1001, "1001" },
		"a step's price":     func(c *asked) { c.steps[3].Price = 3001 },
		"a price below":      func(c *asked) { c.steps[3].Price = -501 },
		"steps that fall":    func(c *asked) { c.steps[2].Seq = 3 },
		"steps twice":        func(c *asked) { c.steps[2].Seq = 2 },
		"too many steps": func(c *asked) {
			for i := range 29 {
				c.steps, c.x = append(c.steps, buys("c", i, 1, 1, -500)), append(c.x, "0")
			}
		},
	} {
		wantNeither(t, what, rich().with(change))
	}
	for what, change := range map[string]func(c *asked){
		"a block's zone":       func(c *asked) { c.blocks[2].Zone = 2 },
		"a block's zone below": func(c *asked) { c.blocks[2].Zone = -1 },
		"a block's hours":      func(c *asked) { c.blocks[2].Qty = []int{1} },
		"one hour more":        func(c *asked) { c.blocks[2].Qty = []int{1, 1, 0} },
		"a block of nothing":   func(c *asked) { c.blocks[2].Qty = []int{0, 0} },
		"a block of less":      func(c *asked) { c.blocks[2].Qty = []int{-1, 1} },
		"a block of too much":  func(c *asked) { c.blocks[2].Qty = []int{0, 1001} },
		"a block's price":      func(c *asked) { c.blocks[2].Price = -501 },
		"blocks that fall":     func(c *asked) { c.blocks[2].Who = "b" },
		"blocks twice":         func(c *asked) { c.blocks[2].Seq = 2 },
		"no parent":            func(c *asked) { c.blocks[2].Parent = 4 },
		"its own parent":       func(c *asked) { c.blocks[2].Parent = 3 },
		"too many blocks": func(c *asked) {
			for i := range 10 {
				c.blocks, c.accept = append(c.blocks, gives("d", i, 0, 0, 1, 0)), append(c.accept, false)
			}
		},
	} {
		wantBoundsAlone(t, what, rich().with(change))
	}
	// As many as there may be.
	wantFind(t, "32 steps and 12 blocks", rich().with(func(c *asked) {
		for i := range 28 {
			c.steps, c.x = append(c.steps, buys("c", i, 1, 1, -500)), append(c.x, "0")
		}
		for i := range 9 {
			c.blocks, c.accept = append(c.blocks, gives("d", i, 0, 0, 1, 0)), append(c.accept, true)
		}
	}), true)
}

func TestP17Accept(t *testing.T) {
	for n := range 8 {
		c := rich()
		c.accept = make([]bool, n)
		if n == 3 {
			wantFind(t, "none", c, true)
			continue
		}
		wantBoundsAlone(t, fmt.Sprint(n), c)
		c.accept = slices.Repeat([]bool{true}, n)
		wantBoundsAlone(t, fmt.Sprint(n), c)
	}
	c := rich()
	c.blocks = nil
	wantBoundsAlone(t, "no blocks", c)
	c.accept = nil
	wantFind(t, "no blocks", c, true)
}

func TestP17X(t *testing.T) {
	for n := range 8 {
		c := rich()
		c.x = append(c.x, "0", "0", "0")[:n]
		if n != 4 {
			wantNeither(t, fmt.Sprint(n), c)
		}
	}
	wantNeither(t, "no steps", rich().with(func(c *asked) { c.steps = nil }))
	wantNeither(t, "none", rich().with(func(c *asked) { c.x = nil }))
	// Each number is asked, whatever its hour and zone.
	for i, s := range rich().steps {
		for _, text := range noNumbers() {
			wantNeither(t, fmt.Sprintf("%d is %q", i, text), rich().with(func(c *asked) { c.x[i] = text }))
		}
		most := strconv.Itoa(s.Qty)
		for text, is := range map[string]bool{
			"-1": false, "-1/1000000000000": false, "-1000000000000000000000": false, "0": true, "1/3": true, most: true,
			strconv.Itoa(s.Qty + 1): false, strconv.Itoa(1000000*s.Qty+1) + "/1000000": false, "1000000000000000000000": false,
		} {
			c := rich().with(func(c *asked) { c.x[i] = text })
			if !is {
				wantNeither(t, fmt.Sprintf("%d is %s", i, text), c)
				continue
			}
			// At each other place all is as it was.
			for at, want := range [][2]int{{20, 20}, {50, 50}, {30, 30}, {-500, 60}} {
				if at != 2*s.Hour+s.Zone {
					wantBounds(t, c, at/2, at%2, want[0], want[1], true)
				}
			}
			wantFind(t, fmt.Sprintf("%d is %s", i, text), c, hasPrices(c))
		}
	}
}

func TestP17F(t *testing.T) {
	for what, f := range map[string][][]string{
		"nothing":               nil,
		"no hour":               {},
		"an hour too few":       table("5 0"),
		"an hour too many":      table("5 0/3 0/0 0"),
		"an empty one too many": table("5 0/3 0/"),
		"empty ones":            table("/"),
		"a line too few":        table("5/3 0"),
		"a line too many":       table("5 0/3 0 0"),
		"as many in all":        table("5 0 3/0"),
	} {
		wantBoundsAlone(t, what, rich().with(func(c *asked) { c.f = f }))
	}
	for hour := range 2 {
		for i, capacity := range []int{5, 0} {
			for _, text := range noNumbers() {
				wantBoundsAlone(t, fmt.Sprintf("%d, %d is %q", hour, i, text), rich().with(func(c *asked) { c.f[hour][i] = text }))
			}
			for _, text := range []string{strconv.Itoa(capacity + 1), strconv.Itoa(-capacity - 1), strconv.Itoa(1000000*capacity+1) + "/1000000", "-" + strconv.Itoa(1000000*capacity+1) + "/1000000", "1000000000000000000000"} {
				wantBoundsAlone(t, fmt.Sprintf("%d, %d is %s", hour, i, text), rich().with(func(c *asked) { c.f[hour][i] = text }))
			}
		}
	}
	// Where there are no lines, there is a list for each hour all the same.
	for hours := 1; hours <= 3; hours++ {
		for n := range 6 {
			wantFind(t, fmt.Sprint(n, " of ", hours), asked{g: gridOf(1, hours), f: make([][]string, n)}, n == hours)
		}
	}
}

// Several at once are told no other way.
func TestP17SeveralAtOnce(t *testing.T) {
	changes := []func(c *asked){
		func(c *asked) { c.g.Low = 3001 },
		func(c *asked) { c.steps[0].Zone = 9 },
		func(c *asked) { c.blocks[0].Qty = nil },
		func(c *asked) { c.accept = nil },
		func(c *asked) { c.x = c.x[:2] },
		func(c *asked) { c.x[1] = "x" },
		func(c *asked) { c.f = c.f[:1] },
		func(c *asked) { c.f[0] = nil },
	}
	for i, first := range changes {
		for _, second := range changes[i+1:] {
			wantFind(t, "two at once", rich().with(second, first), false)
		}
	}
}

// noNumbers are texts that are no number's.
func noNumbers() []string {
	return []string{"", "x", " 1", "1 ", "+1", "-0", "01", "1.5", "1/1", "2/4", "0/2", "1/0", "1/-2", "--1", "/2", "1/", "1e3", "½", "1\x00"}
}

// Whatever stands where, each call ends.
func TestR1WhateverIsHandedIn(t *testing.T) {
	for _, n := range []int{least, least + 1, -1 << 32, -1, 0, 1, 1 << 32, greatest - 1, greatest} {
		g := api.Grid{Zones: n, Hours: n, Lines: []api.Line{line(n, n, n)}, Low: n, High: n}
		steps := []api.Step{{Who: "a", Seq: n, Zone: n, Hour: n, Qty: n, Price: n}}
		blocks := []api.Block{{Who: "a", Seq: n, Zone: n, Price: n, Qty: []int{n}, Parent: n, Group: n}}
		text := strconv.Itoa(n)
		for _, at := range []api.Grid{g, gridOf(1, 1), {}} {
			c := asked{at, steps, blocks, marks("x"), words(text), table(text)}
			wantBounds(t, c, n, n, 0, 0, false)
			wantBounds(t, c, 0, 0, 0, 0, false)
			wantFind(t, text, c, false)
		}
		c := asked{g: gridOf(1, 1), f: table("")}
		if n != 0 {
			wantBounds(t, c, n, 0, 0, 0, false)
			wantBounds(t, c, 0, n, 0, 0, false)
		}
	}
	wantBounds(t, asked{}, 0, 0, 0, 0, false)
	wantFind(t, "nothing", asked{}, false)
}

// As many orders as there may be, of prices that are far apart.
func TestR1Ends(t *testing.T) {
	since := time.Now()
	l := bests(7, 60, size{zones: 3, hours: 3, steps: 32, blocks: 12})
	for _, c := range l {
		p, is := c.find()
		if is && !fits(c, p) {
			t.Errorf("%v do not fit: %+v", p, c)
		}
		for i := range c.accept {
			c.accept[i] = true
		}
		if p, is := c.find(); is && !fits(c, p) {
			t.Errorf("%v do not fit: %+v", p, c)
		}
	}
	if took := time.Since(since); took > time.Minute {
		t.Errorf("it took %v", took)
	}
}

func withRoom[E any](l []E, more ...E) []E {
	return append(slices.Clone(l), more...)[:len(l)]
}

// roomy has spare room behind all its lists, and in it what would not do.
func roomy() asked {
	c := rich()
	c.g.Lines = withRoom(c.g.Lines, line(0, 1, 1000), line(9, 9, 9))
	c.steps = withRoom(c.steps, sells("a", 1, 9, 9, 9), sells("z", 1, 0, 9, 9))
	c.blocks = withRoom(c.blocks, gives("a", 1, 9, 9, 9), takes("z", 1, 0, 9, 9))
	for i, b := range c.blocks {
		c.blocks[i].Qty = withRoom(b.Qty, 99, 98)
	}
	c.accept, c.x = withRoom(c.accept, true, true), withRoom(c.x, "99", "x")
	for i, l := range c.f {
		c.f[i] = withRoom(l, "99", "x")
	}
	c.f = withRoom(c.f, []string{"99"}, nil)
	return c
}

// whole is all that it has, with what stands in the room.
func (c asked) whole() asked {
	c.g.Lines, c.steps, c.blocks = c.g.Lines[:cap(c.g.Lines)], c.steps[:cap(c.steps)], c.blocks[:cap(c.blocks)]
	c.accept, c.x, c.f = c.accept[:cap(c.accept)], c.x[:cap(c.x)], c.f[:cap(c.f)]
	blocks, f := c.blocks, c.f
	c = c.copied()
	for i, b := range blocks {
		c.blocks[i].Qty = slices.Clone(b.Qty[:cap(b.Qty)])
	}
	for i, l := range f {
		c.f[i] = slices.Clone(l[:cap(l)])
	}
	return c
}

// spoil writes over all that was handed in, with the room.
func (c asked) spoil() {
	for _, b := range c.blocks[:cap(c.blocks)] {
		clear(b.Qty[:cap(b.Qty)])
	}
	for _, l := range c.f[:cap(c.f)] {
		clear(l[:cap(l)])
	}
	clear(c.g.Lines[:cap(c.g.Lines)])
	clear(c.steps[:cap(c.steps)])
	clear(c.blocks[:cap(c.blocks)])
	clear(c.accept[:cap(c.accept)])
	clear(c.x[:cap(c.x)])
	clear(c.f[:cap(c.f)])
}

func TestR3WhatIsHandedInStays(t *testing.T) {
	for what, change := range map[string]func(c *asked){
		"prices":     func(c *asked) {},
		"none":       func(c *asked) { c.blocks[0].Price = 39 },
		"no orders":  func(c *asked) { c.steps[1].Seq = 0 },
		"no numbers": func(c *asked) { c.x[3] = "x" },
		"no flows":   func(c *asked) { c.f[1][0] = "6" },
	} {
		c := roomy()
		change(&c)
		was := c.whole()
		p, is := c.find()
		low, high, may := c.bounds(1, 1)
		if got := c.whole(); !reflect.DeepEqual(got, was) {
			t.Errorf("%s: what was handed in: %+v, not %+v", what, got, was)
		}
		if is != (what == "prices") || is && !reflect.DeepEqual(p, table("20 50/30 30")) {
			t.Errorf("%s: %v, %t", what, p, is)
		}
		// Nor is it kept: what was answered stays, and is answered again.
		c.spoil()
		again := roomy()
		change(&again)
		wantBounds(t, again, 1, 1, low, high, may)
		if q, isAgain := again.find(); isAgain != is || !reflect.DeepEqual(q, p) {
			t.Errorf("%s: %v, then %v", what, p, q)
		}
	}
}

// No two lists of an answer share memory, nor two answers, nor an answer and
// what was handed in.
func TestR3NewMemory(t *testing.T) {
	c := asked{g: gridOf(3, 3, line(0, 1, 5), line(1, 2, 5), line(0, 2, 5)), f: table("0 0 0/0 0 0/0 0 0")}
	was := c.whole()
	first, _ := c.find()
	wanted := make([][]string, len(first))
	for i, l := range first {
		wanted[i] = slices.Clone(l)
	}
	for i := range 3 {
		p, is := c.find()
		if !is || !reflect.DeepEqual(p, wanted) {
			t.Fatalf("%v, not %v", p, wanted)
		}
		for j := range p[i][:cap(p[i])] {
			p[i][:cap(p[i])][j] = "gone"
		}
		for j := range p {
			if j != i && !slices.Equal(p[j], wanted[j]) {
				t.Errorf("hour %d shares memory with %d: %q", j, i, p[j])
			}
		}
		// The list of lists, too, has room of its own.
		all := p[:cap(p)]
		for j := range all {
			all[j] = nil
		}
	}
	if !reflect.DeepEqual(first, wanted) {
		t.Errorf("%v, not %v", first, wanted)
	}
	if got := c.whole(); !reflect.DeepEqual(got, was) {
		t.Errorf("behind an answer: %+v, not %+v", got, was)
	}
}

func TestR5OneAnswer(t *testing.T) {
	l := bests(8, 60, size{zones: 3, hours: 3, steps: 12, blocks: 6})
	type answer struct {
		p         [][]string
		is        bool
		low, high int
		may       bool
	}
	ask := func(c asked) (a answer) {
		a.p, a.is = price.Find(c.g, c.steps, c.blocks, c.accept, c.x, c.f)
		a.low, a.high, a.may = price.Bounds(c.g, c.steps, c.x, 0, 0)
		return a
	}
	var first []answer
	for _, c := range l {
		first = append(first, ask(c))
	}
	for i, c := range slices.Backward(l) {
		if again := ask(c.copied()); !reflect.DeepEqual(again, first[i]) {
			t.Errorf("%+v: %+v, then %+v", c, first[i], again)
		}
	}
}
