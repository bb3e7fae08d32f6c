package result_test

import (
	"math/big"
	"math/rand/v2"
	"slices"
	"testing"

	"noonbell/api"
	"noonbell/market"
	"noonbell/result"
)

// The models go by the document's words, by the library's fractions.

func bigOf(n int) *big.Rat { return big.NewRat(int64(n), 1) }

// number is the one whose only text this is.
func number(text string) (*big.Rat, bool) {
	n, is := new(big.Rat).SetString(text)
	return n, is && n.RatString() == text
}

func ratOf(text string) *big.Rat {
	n, is := number(text)
	if !is {
		panic(text)
	}
	return n
}

func ratsOf(texts []string) []*big.Rat {
	var l []*big.Rat
	for _, text := range texts {
		l = append(l, ratOf(text))
	}
	return l
}

func within(low int, n *big.Rat, high int) bool {
	return bigOf(low).Cmp(n) <= 0 && n.Cmp(bigOf(high)) <= 0
}

func between(low, n, high int) bool { return low <= n && n <= high }

// signed is n of who buys, and less n of who sells.
func signed(buy bool, n *big.Rat) *big.Rat {
	if buy {
		return n
	}
	return new(big.Rat).Neg(n)
}

// worth is what x of the steps is worth.
func worth(steps []api.Step, x []*big.Rat) *big.Rat {
	sum := new(big.Rat)
	for i, s := range steps {
		sum.Add(sum, signed(s.Buy, new(big.Rat).Mul(bigOf(s.Price), x[i])))
	}
	return sum
}

// surplus is of prices that there are.
func surplus(b api.Block, p [][]*big.Rat) *big.Rat {
	sum := new(big.Rat)
	for hour, qty := range b.Qty {
		each := new(big.Rat).Sub(bigOf(b.Price), p[hour][b.Zone])
		sum.Add(sum, signed(b.Buy, each.Mul(each, bigOf(qty))))
	}
	return sum
}

// areLinked holds each block against each.
func areLinked(blocks []api.Block, accept []bool) bool {
	if len(blocks) != len(accept) {
		return false
	}
	for i, b := range blocks {
		isThere := b.Parent <= 0
		for j, other := range blocks {
			if !accept[j] || other.Who != b.Who {
				continue
			}
			isThere = isThere || other.Seq == b.Parent
			if accept[i] && i != j && b.Group > 0 && b.Group == other.Group {
				return false
			}
		}
		if accept[i] && !isThere {
			return false
		}
	}
	return true
}

// areOrders holds each order against each.
func areOrders(c published) bool {
	g := c.g
	is := between(1, g.Zones, 3) && between(1, g.Hours, 3) && len(g.Lines) <= 3 && -100000 <= g.Low && g.Low <= g.High && g.High <= 100000
	for _, l := range g.Lines {
		is = is && between(0, l.From, g.Zones-1) && between(0, l.To, g.Zones-1) && l.From != l.To && between(0, l.Cap, 1000)
	}
	is = is && len(c.steps) <= 32 && len(c.blocks) <= 12
	for i, s := range c.steps {
		is = is && between(0, s.Zone, g.Zones-1) && between(0, s.Hour, g.Hours-1) && between(1, s.Qty, 1000) && between(g.Low, s.Price, g.High)
		for _, next := range c.steps[i+1:] {
			is = is && (s.Who < next.Who || s.Who == next.Who && s.Seq < next.Seq)
		}
	}
	for i, b := range c.blocks {
		some := false
		for _, qty := range b.Qty {
			is = is && between(0, qty, 1000)
			some = some || qty > 0
		}
		is = is && some && len(b.Qty) == g.Hours && between(0, b.Zone, g.Zones-1) && between(g.Low, b.Price, g.High)
		for _, next := range c.blocks[i+1:] {
			is = is && (b.Who < next.Who || b.Who == next.Who && b.Seq < next.Seq)
		}
		is = is && generations(c.blocks, b) <= len(c.blocks)
	}
	return is
}

// generations is how many blocks there are from b upward: more than there are,
// if there is no parent, or no end.
func generations(blocks []api.Block, b api.Block) int {
	for n := 1; n <= len(blocks); n++ {
		if b.Parent <= 0 {
			return n
		}
		i := slices.IndexFunc(blocks, func(p api.Block) bool { return p.Who == b.Who && p.Seq == b.Parent })
		if i < 0 {
			break
		}
		b = blocks[i]
	}
	return len(blocks) + 1
}

// broken is the first number of what is not so.
func broken(c published) int {
	n := shapeOrText(c)
	if n > 0 {
		return n
	}
	x := ratsOf(c.r.X)
	var f, p [][]*big.Rat
	for hour := range c.g.Hours {
		f, p = append(f, ratsOf(c.r.F[hour])), append(p, ratsOf(c.r.P[hour]))
	}
	for i, isSo := range []bool{
		areInLimits(c, x, f, p), isEven(c, x, f), stepsFit(c, x, p), linesFit(c, f, p),
		areLinked(c.blocks, c.r.Accept), noneLoses(c, p), isWorth(c, x),
		ratOf(c.r.Upper).Cmp(ratOf(c.r.Welfare)) >= 0 && (!c.r.Optimal || c.r.Upper == c.r.Welfare),
	} {
		if !isSo {
			return 3 + i
		}
	}
	return 0
}

func shapeOrText(c published) int {
	r := c.r
	if !areOrders(c) || len(r.Accept) != len(c.blocks) || len(r.X) != len(c.steps) || len(r.F) != c.g.Hours || len(r.P) != c.g.Hours || r.Nodes < 0 {
		return 1
	}
	for hour := range c.g.Hours {
		if len(r.F[hour]) != len(c.g.Lines) || len(r.P[hour]) != c.g.Zones {
			return 1
		}
	}
	for _, text := range c.texts() {
		if _, is := number(*text); !is {
			return 2
		}
	}
	return 0
}

func areInLimits(c published, x []*big.Rat, f, p [][]*big.Rat) bool {
	is := true
	for i, s := range c.steps {
		is = is && within(0, x[i], s.Qty)
	}
	for hour := range c.g.Hours {
		for i, l := range c.g.Lines {
			is = is && within(-l.Cap, f[hour][i], l.Cap)
		}
		for _, price := range p[hour] {
			is = is && within(c.g.Low, price, c.g.High)
		}
	}
	return is
}

// isEven tells whether nothing is left over anywhere.
func isEven(c published, x []*big.Rat, f [][]*big.Rat) bool {
	for hour := range c.g.Hours {
		over := make([]*big.Rat, c.g.Zones)
		for zone := range over {
			over[zone] = new(big.Rat)
		}
		for i, s := range c.steps {
			if s.Hour == hour {
				over[s.Zone].Sub(over[s.Zone], signed(s.Buy, x[i]))
			}
		}
		for i, b := range c.blocks {
			if c.r.Accept[i] {
				over[b.Zone].Sub(over[b.Zone], signed(b.Buy, bigOf(b.Qty[hour])))
			}
		}
		for i, l := range c.g.Lines {
			over[l.From].Sub(over[l.From], f[hour][i])
			over[l.To].Add(over[l.To], f[hour][i])
		}
		if slices.ContainsFunc(over, func(n *big.Rat) bool { return n.Sign() != 0 }) {
			return false
		}
	}
	return true
}

func stepsFit(c published, x []*big.Rat, p [][]*big.Rat) bool {
	for i, s := range c.steps {
		above := p[s.Hour][s.Zone].Cmp(bigOf(s.Price))
		some, notAll := x[i].Sign() > 0, x[i].Cmp(bigOf(s.Qty)) < 0
		switch {
		case !s.Buy && (some && above < 0 || notAll && above > 0):
			return false
		case s.Buy && (some && above > 0 || notAll && above < 0):
			return false
		}
	}
	return true
}

func linesFit(c published, f, p [][]*big.Rat) bool {
	for hour := range c.g.Hours {
		for i, l := range c.g.Lines {
			above := p[hour][l.To].Cmp(p[hour][l.From])
			if f[hour][i].Cmp(bigOf(-l.Cap)) > 0 && above < 0 || f[hour][i].Cmp(bigOf(l.Cap)) < 0 && above > 0 {
				return false
			}
		}
	}
	return true
}

func noneLoses(c published, p [][]*big.Rat) bool {
	for i, b := range c.blocks {
		if c.r.Accept[i] && surplus(b, p).Sign() < 0 {
			return false
		}
	}
	return true
}

func isWorth(c published, x []*big.Rat) bool {
	sum := worth(c.steps, x)
	for i, b := range c.blocks {
		for _, qty := range b.Qty {
			if c.r.Accept[i] {
				sum.Add(sum, signed(b.Buy, bigOf(b.Price*qty)))
			}
		}
	}
	return sum.RatString() == c.r.Welfare
}

// drawn is a source of results: the same ones each time.
type drawn struct{ *rand.Rand }

func draw(seed uint64) drawn { return drawn{rand.New(rand.NewPCG(seed, 16))} }

// near is a number no further from 0 than most.
func (r drawn) near(most int) int { return r.IntN(2*most+1) - most }

func (r drawn) fraction(most int) *big.Rat {
	return big.NewRat(int64(r.near(most)), 1+r.Int64N([]int64{1, 6, 1000000}[r.IntN(3)]))
}

func (r drawn) is() bool { return r.IntN(2) == 0 }

// orders are such as there may be.
func (r drawn) orders(qty, price int) published {
	c := published{g: gridOf(1+r.IntN(3), 1+r.IntN(3))}
	for range r.IntN(4) {
		if c.g.Zones > 1 {
			from := r.IntN(c.g.Zones)
			c.g.Lines = append(c.g.Lines, line(from, (from+1+r.IntN(c.g.Zones-1))%c.g.Zones, r.IntN(qty+1)))
		}
	}
	c.g.Low, c.g.High = -price, price
	for _, who := range []string{"a", "b", "c"} {
		for seq := range r.IntN(7) {
			s := api.Step{Who: who, Seq: seq + 1, Zone: r.IntN(c.g.Zones), Hour: r.IntN(c.g.Hours), Buy: r.is(), Qty: 1 + r.IntN(qty), Price: r.near(price)}
			c.steps = append(c.steps, s)
		}
		for seq := range r.IntN(4) {
			b := api.Block{Who: who, Seq: seq + 1, Zone: r.IntN(c.g.Zones), Buy: r.is(), Price: r.near(price), Parent: r.IntN(seq + 1), Group: max(0, r.IntN(6)-3)}
			for range c.g.Hours {
				b.Qty = append(b.Qty, r.IntN(qty+1))
			}
			b.Qty[r.IntN(c.g.Hours)] = 1 + r.IntN(qty)
			c.blocks = append(c.blocks, b)
		}
	}
	return c
}

// result answers one by market, of blocks that are accepted as it comes, and
// whether there is one.
func (r drawn) result(c *published) bool {
	c.r = api.Result{X: make([]string, len(c.steps)), Nodes: r.IntN(9)}
	for range c.blocks {
		c.r.Accept = append(c.r.Accept, r.IntN(3) == 0)
	}
	for hour := range c.g.Hours {
		h, e := market.Solve(c.g, c.steps, hour, market.Net(c.g, c.blocks, c.r.Accept, hour))
		if e != api.OK || !h.OK {
			return false
		}
		c.r.F, c.r.P = append(c.r.F, h.F), append(c.r.P, h.P)
		for i, s := range c.steps {
			if s.Hour == hour {
				c.r.X[i], h.X = h.X[0], h.X[1:]
			}
		}
	}
	c.r.Welfare = market.Welfare(c.steps, c.r.X, c.blocks, c.r.Accept)
	c.r.Upper = c.r.Welfare
	if c.r.Optimal = r.is(); !c.r.Optimal {
		c.r.Upper = new(big.Rat).Add(ratOf(c.r.Welfare), bigOf(r.IntN(5))).RatString()
	}
	return true
}

// results are drawn ones; most hold.
func results(seed uint64, many int) []published {
	r := draw(seed)
	var l []published
	for len(l) < many {
		c := r.orders([]int{1, 3, 20, 1000}[r.IntN(4)], []int{1, 3, 50, 100000}[r.IntN(4)])
		if r.result(&c) {
			l = append(l, c)
		}
	}
	return l
}

// spoilt has one thing that is another.
func (r drawn) spoilt(c published) published {
	c = c.copied()
	texts := c.texts()
	switch r.IntN(9) {
	case 0:
		*texts[r.IntN(len(texts))] = []string{"x", "", "1/1", "01"}[r.IntN(4)]
	case 1, 2, 3:
		text := texts[r.IntN(len(texts))]
		*text = new(big.Rat).Add(ratOf(*text), r.fraction([]int{1, 5, 1000}[r.IntN(3)])).RatString()
	case 4:
		if len(c.blocks) > 0 {
			i := r.IntN(len(c.blocks))
			c.r.Accept[i] = !c.r.Accept[i]
		}
	case 5, 6:
		r.spoilOrder(c)
	case 7:
		c.r.Optimal = !c.r.Optimal
	default:
		i := r.IntN(c.g.Hours)
		c.r.P[i] = resized(c.r.P[i], r.near(1))
	}
	return c
}

// spoilOrder changes a number of one of the orders, if there is one.
func (r drawn) spoilOrder(c published) {
	switch i := r.IntN(len(c.steps) + len(c.blocks) + 1); {
	case i < len(c.steps):
		s := &c.steps[i]
		*[]*int{&s.Seq, &s.Zone, &s.Hour, &s.Qty, &s.Price}[r.IntN(5)] += r.near(2)
	case i < len(c.steps)+len(c.blocks):
		b := &c.blocks[i-len(c.steps)]
		*[]*int{&b.Seq, &b.Zone, &b.Price, &b.Qty[0], &b.Parent, &b.Group}[r.IntN(6)] += r.near(2)
	}
}

func TestP164AgainstTheModel(t *testing.T) {
	told := map[int]int{}
	for i, c := range results(3, 1500) {
		r := draw(uint64(1000 + i))
		for range 8 {
			n := broken(c)
			told[n]++
			if got := c.check(); got != n {
				t.Fatalf("%+v: %d, not %d", c, got, n)
			}
			if n == 1 || n == 2 {
				break
			}
			c = r.spoilt(c)
		}
	}
	for n := range 11 {
		if told[n] < 30 {
			t.Errorf("%d: told %d times", n, told[n])
		}
	}
}

func TestP161AgainstTheModel(t *testing.T) {
	kept, r := 0, draw(4)
	for range 10000 {
		c := r.orders([]int{1, 5, 1000}[r.IntN(3)], []int{1, 5, 100000}[r.IntN(3)])
		for range r.IntN(4) {
			r.spoilOrder(c)
		}
		is := areOrders(c)
		if is {
			kept++
		}
		if result.Orders(c.g, c.steps, c.blocks) != is {
			t.Errorf("%+v: %t", c, !is)
		}
	}
	if kept < 3000 || kept > 8000 {
		t.Errorf("%d are orders", kept)
	}
}
