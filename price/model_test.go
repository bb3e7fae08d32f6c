package price_test

import (
	"math/big"
	"math/rand/v2"
	"slices"
	"strings"
	"testing"

	"noonbell/api"
	"noonbell/market"
	"noonbell/price"
)

// The models go by the document's words, by the library's fractions.

func bigOf(n int) *big.Rat { return big.NewRat(int64(n), 1) }

// number is the one whose only text this is.
func number(text string) (*big.Rat, bool) {
	n, is := new(big.Rat).SetString(text)
	return n, is && n.RatString() == text
}

func ratOf(text string) *big.Rat {
	n, is := number(text)
	if !is {
		panic(text)
	}
	return n
}

// relation is that the numbers, each so many times, are at most right.
type relation struct {
	times []*big.Rat
	right *big.Rat
}

// relations are all that is asked of the prices, hour by hour and zone by zone:
// Low and High, R5, R6 and R8.
func relations(c asked) []relation {
	var l []relation
	many := c.g.Hours * c.g.Zones
	// The prices of these hours and zones, each so many times, less right, have
	// this sign or are 0.
	ask := func(sign int, right int, times map[[2]int]int) {
		r := relation{right: bigOf(-sign * right)}
		for i := range many {
			r.times = append(r.times, bigOf(-sign*times[[2]int{i / c.g.Zones, i % c.g.Zones}]))
		}
		l = append(l, r)
	}
	for i := range many {
		at := map[[2]int]int{{i / c.g.Zones, i % c.g.Zones}: 1}
		ask(1, c.g.Low, at)
		ask(-1, c.g.High, at)
	}
	for i, s := range c.steps {
		x, at, side := ratOf(c.x[i]), map[[2]int]int{{s.Hour, s.Zone}: 1}, 1
		if s.Buy {
			side = -1
		}
		if x.Sign() > 0 {
			ask(side, s.Price, at)
		}
		if x.Cmp(bigOf(s.Qty)) < 0 {
			ask(-side, s.Price, at)
		}
	}
	for hour := range c.g.Hours {
		for i, line := range c.g.Lines {
			flow, at := ratOf(c.f[hour][i]), map[[2]int]int{{hour, line.To}: 1, {hour, line.From}: -1}
			if flow.Cmp(bigOf(-line.Cap)) > 0 {
				ask(1, 0, at)
			}
			if flow.Cmp(bigOf(line.Cap)) < 0 {
				ask(-1, 0, at)
			}
		}
	}
	for i, b := range c.blocks {
		if !c.accept[i] {
			continue
		}
		at, all, side := map[[2]int]int{}, 0, 1
		for hour, qty := range b.Qty {
			at[[2]int{hour, b.Zone}] = qty
			all += qty * b.Price
		}
		if b.Buy {
			side = -1
		}
		ask(side, all, at)
	}
	return l
}

// holds tells whether the prices are as is asked.
func (r relation) holds(p []*big.Rat) bool {
	sum := new(big.Rat)
	for i, n := range r.times {
		sum.Add(sum, new(big.Rat).Mul(n, p[i]))
	}
	return sum.Cmp(r.right) <= 0
}

// name is the same for those that differ in right alone, once each is divided
// by the size of its first number.
func (r relation) name() string {
	var texts []string
	var by *big.Rat
	for _, n := range r.times {
		if by == nil && n.Sign() != 0 {
			by = new(big.Rat).Abs(n)
			by.Inv(by)
		}
	}
	if by != nil {
		r.right.Mul(r.right, by)
	}
	for _, n := range r.times {
		if by != nil {
			n.Mul(n, by)
		}
		texts = append(texts, n.RatString())
	}
	return strings.Join(texts, " ")
}

// strictest keeps of those with one name the one that asks most.
func strictest(l []relation) []relation {
	at := map[string]int{}
	var kept []relation
	for _, r := range l {
		name := r.name()
		if i, is := at[name]; !is {
			at[name] = len(kept)
			kept = append(kept, r)
		} else if r.right.Cmp(kept[i].right) < 0 {
			kept[i] = r
		}
	}
	return kept
}

// canHold tells whether some prices hold all, by Fourier's and Motzkin's way:
// one price after the other is done without.
func canHold(l []relation, prices int) bool {
	for range prices {
		l = strictest(l)
		l = without(l, cheapest(l, prices))
	}
	return !slices.ContainsFunc(l, func(r relation) bool { return r.right.Sign() < 0 })
}

// cheapest is the price that the fewest relations come of, of those that there
// still are.
func cheapest(l []relation, prices int) int {
	best, cost := 0, -1
	for j := range prices {
		counts := map[int]int{}
		for _, r := range l {
			counts[r.times[j].Sign()]++
		}
		if all := counts[1] * counts[-1]; counts[1]+counts[-1] > 0 && (cost < 0 || all < cost) {
			best, cost = j, all
		}
	}
	return best
}

func without(l []relation, j int) []relation {
	var rest []relation
	for _, r := range l {
		if r.times[j].Sign() == 0 {
			rest = append(rest, r)
		}
	}
	for _, a := range l {
		for _, b := range l {
			if a.times[j].Sign() > 0 && b.times[j].Sign() < 0 {
				rest = append(rest, together(a, b, j))
			}
		}
	}
	return rest
}

// together is the sum of both, each so many times that the j-th is gone.
func together(a, b relation, j int) relation {
	m, n := new(big.Rat).Neg(b.times[j]), a.times[j]
	sum := func(x, y *big.Rat) *big.Rat {
		x, y = new(big.Rat).Mul(x, m), new(big.Rat).Mul(y, n)
		return x.Add(x, y)
	}
	r := relation{right: sum(a.right, b.right)}
	for i := range a.times {
		r.times = append(r.times, sum(a.times[i], b.times[i]))
	}
	return r
}

// fits tells whether the prices are of their shape, numbers, and as is asked.
func fits(c asked, p [][]string) bool {
	var l []*big.Rat
	if len(p) != c.g.Hours {
		return false
	}
	for _, zones := range p {
		if len(zones) != c.g.Zones {
			return false
		}
		for _, text := range zones {
			n, is := number(text)
			if !is {
				return false
			}
			l = append(l, n)
		}
	}
	return !slices.ContainsFunc(relations(c), func(r relation) bool { return !r.holds(l) })
}

// hasPrices tells whether there are prices.
func hasPrices(c asked) bool {
	return canHold(relations(c), c.g.Hours*c.g.Zones)
}

// boundsOf are the prices from Low to High that fit, gone through one by one.
func boundsOf(c asked, hour, zone int) (int, int, bool) {
	if hour < 0 || hour >= c.g.Hours || zone < 0 || zone >= c.g.Zones {
		return 0, 0, false
	}
	var fitting []int
	for p := c.g.Low; p <= c.g.High; p++ {
		is := true
		for i, s := range c.steps {
			if s.Hour != hour || s.Zone != zone {
				continue
			}
			x := ratOf(c.x[i])
			some, notAll := x.Sign() > 0, x.Cmp(bigOf(s.Qty)) < 0
			if s.Buy {
				is = is && (!some || p <= s.Price) && (!notAll || p >= s.Price)
			} else {
				is = is && (!some || p >= s.Price) && (!notAll || p <= s.Price)
			}
		}
		if is {
			fitting = append(fitting, p)
		}
	}
	if len(fitting) == 0 {
		return 0, 0, false
	}
	return fitting[0], fitting[len(fitting)-1], true
}

// drawn is a source of what may be asked: the same each time.
type drawn struct{ *rand.Rand }

func draw(seed uint64) drawn { return drawn{rand.New(rand.NewPCG(seed, 17))} }

// near is a number no further from 0 than most.
func (r drawn) near(most int) int { return r.IntN(2*most+1) - most }

func (r drawn) is() bool { return r.IntN(2) == 0 }

// size is what is drawn, at most.
type size struct{ zones, hours, steps, blocks, qty, price int }

// orders are such as there may be.
func (r drawn) orders(most size) asked {
	c := asked{g: gridOf(1+r.IntN(most.zones), 1+r.IntN(most.hours))}
	for range r.IntN(4) {
		if c.g.Zones > 1 {
			from := r.IntN(c.g.Zones)
			c.g.Lines = append(c.g.Lines, line(from, (from+1+r.IntN(c.g.Zones-1))%c.g.Zones, max(0, r.IntN(most.qty+2)-1)))
		}
	}
	c.g.Low, c.g.High = -most.price, most.price
	for i := range r.IntN(most.steps + 1) {
		c.steps = append(c.steps, api.Step{Who: "a", Seq: i + 1, Zone: r.IntN(c.g.Zones), Hour: r.IntN(c.g.Hours), Buy: r.is(), Qty: 1 + r.IntN(most.qty), Price: r.near(most.price)})
	}
	for i := range r.IntN(most.blocks + 1) {
		b := api.Block{Who: "b", Seq: i + 1, Zone: r.IntN(c.g.Zones), Buy: r.is(), Price: r.near(most.price), Parent: r.IntN(i + 1), Group: max(0, r.IntN(6)-3)}
		for range c.g.Hours {
			b.Qty = append(b.Qty, r.IntN(most.qty+1))
		}
		b.Qty[r.IntN(c.g.Hours)] = 1 + r.IntN(most.qty)
		c.blocks = append(c.blocks, b)
		c.accept = append(c.accept, r.is())
	}
	return c
}

// any takes of the steps and lets flow what it likes, so that it does not come
// out even: mostly none or all.
func (r drawn) any(c asked) asked {
	part := func(least, most int) string {
		switch r.IntN(5) {
		case 0, 1:
			return bigOf(least).RatString()
		case 2, 3:
			return bigOf(most).RatString()
		}
		n := big.NewRat(r.Int64N(7), 6)
		return n.Add(n.Mul(n, bigOf(most-least)), bigOf(least)).RatString()
	}
	for _, s := range c.steps {
		c.x = append(c.x, part(0, s.Qty))
	}
	for range c.g.Hours {
		flows := []string{}
		for _, l := range c.g.Lines {
			flows = append(flows, part(-l.Cap, l.Cap))
		}
		c.f = append(c.f, flows)
	}
	return c
}

// best takes what has the greatest welfare, if anything is feasible.
func best(c asked) (asked, bool) {
	c.x, c.f = make([]string, len(c.steps)), nil
	for hour := range c.g.Hours {
		h, e := market.Solve(c.g, c.steps, hour, market.Net(c.g, c.blocks, c.accept, hour))
		if e != api.OK || !h.OK {
			return asked{}, false
		}
		c.f = append(c.f, h.F)
		for i, s := range c.steps {
			if s.Hour == hour {
				c.x[i], h.X = h.X[0], h.X[1:]
			}
		}
	}
	return c, true
}

// bests are drawn ones of the greatest welfare, of all sizes up to this one.
func bests(seed uint64, many int, most size) []asked {
	r := draw(seed)
	var l []asked
	for len(l) < many {
		most.qty, most.price = []int{1, 3, 20, 1000}[r.IntN(4)], []int{1, 3, 50, 100000}[r.IntN(4)]
		if c, is := best(r.orders(most)); is {
			l = append(l, c)
		}
	}
	return l
}

func TestP171AgainstTheModel(t *testing.T) {
	r := draw(1)
	told := map[bool]int{}
	for range 4000 {
		c := r.any(r.orders(size{1 + r.IntN(3), 1 + r.IntN(3), 12, 0, 4, []int{1, 4, 30}[r.IntN(3)]}))
		for hour := -1; hour <= 3; hour++ {
			for zone := -1; zone <= 3; zone++ {
				least, greatest, is := boundsOf(c, hour, zone)
				if hour >= 0 && zone >= 0 && hour < c.g.Hours && zone < c.g.Zones {
					told[is]++
				}
				wantBounds(t, c, hour, zone, least, greatest, is)
			}
		}
	}
	if told[true] < 3000 || told[false] < 3000 {
		t.Errorf("%v", told)
	}
}

func TestP172AgainstTheModel(t *testing.T) {
	r := draw(2)
	told := map[bool]int{}
	for range 3000 {
		c := r.any(r.orders(size{3, 3, 3, 4, 1 + r.IntN(5), []int{2, 10, 1000}[r.IntN(3)]}))
		is := hasPrices(c)
		told[is]++
		wantFind(t, "drawn", c, is)
	}
	if told[true] < 500 || told[false] < 500 {
		t.Errorf("%v", told)
	}
}

// Of what has the greatest welfare there are prices if no block is accepted;
// with some, the blocks tell.
func TestP172OfTheGreatestWelfare(t *testing.T) {
	told := map[bool]int{}
	for _, c := range bests(3, 1000, size{zones: 3, hours: 3, steps: 12, blocks: 4}) {
		is := hasPrices(c)
		told[is]++
		wantFind(t, "the best", c, is)
		c.blocks, c.accept = nil, nil
		if c, is := best(c); is {
			wantFind(t, "of no blocks", c, true)
		}
	}
	if told[true] < 200 || told[false] < 200 {
		t.Errorf("%v", told)
	}
}

// Bounds are whole, but blocks of several hours draw prices to any fractions.
func TestP172Fractions(t *testing.T) {
	r := draw(4)
	whole, broken := 0, 0
	for range 2000 {
		c := r.any(r.orders(size{1, 3, 2, 4, 9, 6}))
		p, is := price.Find(c.g, c.steps, c.blocks, c.accept, c.x, c.f)
		if !is {
			continue
		}
		if strings.Contains(strings.Join(slices.Concat(p...), " "), "/") {
			broken++
		} else {
			whole++
		}
		wantFind(t, "drawn", c, true)
	}
	if whole < 100 || broken < 20 {
		t.Errorf("%d with whole prices alone, %d with others", whole, broken)
	}
}

func TestP173AgainstTheModel(t *testing.T) {
	r := draw(5)
	fewer, more := 0, 0
	l := bests(6, 200, size{zones: 3, hours: 3, steps: 12, blocks: 6})
	for range 800 {
		l = append(l, r.any(r.orders(size{2, 3, 2, 5, 4, 20})))
	}
	for _, c := range l {
		if _, is := price.Find(c.g, c.steps, c.blocks, c.accept, c.x, c.f); !is {
			more++
			continue
		}
		for set := range 1 << len(c.blocks) {
			d := c
			d.accept = nil
			for i, is := range c.accept {
				d.accept = append(d.accept, is && set>>i&1 > 0)
			}
			wantFind(t, "fewer", d, true)
			fewer++
		}
	}
	if fewer < 2000 || more < 150 {
		t.Errorf("%d with fewer, %d had none", fewer, more)
	}
}
