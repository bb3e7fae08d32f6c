package market_test

import (
	"math/big"
	"math/rand/v2"
	"slices"
	"testing"

	"noonbell/api"
	"noonbell/market"
)

// The models go by the document's words, by the library's fractions.

func bigOf(n int) *big.Rat { return big.NewRat(int64(n), 1) }

// bigsOf are the numbers whose texts these are, if each is one's only text.
func bigsOf(texts []string) ([]*big.Rat, bool) {
	var l []*big.Rat
	for _, text := range texts {
		n, is := new(big.Rat).SetString(text)
		if !is || n.RatString() != text {
			return nil, false
		}
		l = append(l, n)
	}
	return l, true
}

// counting are the steps that Build has variables of.
func counting(g api.Grid, steps []api.Step, hour int) []api.Step {
	return slices.DeleteFunc(slices.Clone(steps), func(s api.Step) bool {
		return s.Hour != hour || s.Zone < 0 || s.Zone >= g.Zones
	})
}

// reach is the least and the most that steps of a set of zones, and net, give.
func reach(steps []api.Step, net []int, inside func(zone int) bool) (int, int) {
	low, high := 0, 0
	for zone, n := range net {
		if inside(zone) {
			low, high = low+n, high+n
		}
	}
	for _, s := range steps {
		switch {
		case !inside(s.Zone):
		case s.Buy:
			low -= s.Qty
		default:
			high += s.Qty
		}
	}
	return low, high
}

// isFeasible tells it by Hoffman's cuts: of each set of zones, what it has at
// least can leave it, and what it lacks at least can come.
func isFeasible(g api.Grid, steps []api.Step, net []int) bool {
	if slices.ContainsFunc(steps, func(s api.Step) bool { return s.Qty < 0 }) {
		return false
	}
	for set := range 1 << g.Zones {
		inside := func(zone int) bool { return set>>zone&1 > 0 }
		cross := 0
		for _, l := range g.Lines {
			if inside(l.From) != inside(l.To) {
				cross += l.Cap
			}
		}
		if low, high := reach(steps, net, inside); low > cross || high < -cross {
			return false
		}
	}
	return true
}

// worth is what x of the steps is worth.
func worth(steps []api.Step, x []*big.Rat) *big.Rat {
	sum := new(big.Rat)
	for i, s := range steps {
		part := new(big.Rat).Mul(bigOf(s.Price), x[i])
		if s.Buy {
			sum.Add(sum, part)
		} else {
			sum.Sub(sum, part)
		}
	}
	return sum
}

// isTaken tells whether x and f are of their limits, and nothing is left over
// in any zone.
func isTaken(g api.Grid, steps []api.Step, net []int, x, f []*big.Rat) bool {
	over := make([]*big.Rat, g.Zones)
	for zone := range over {
		over[zone] = bigOf(net[zone])
	}
	for i, s := range steps {
		if x[i].Sign() < 0 || x[i].Cmp(bigOf(s.Qty)) > 0 {
			return false
		}
		if s.Buy {
			over[s.Zone].Sub(over[s.Zone], x[i])
		} else {
			over[s.Zone].Add(over[s.Zone], x[i])
		}
	}
	for i, l := range g.Lines {
		if new(big.Rat).Abs(f[i]).Cmp(bigOf(l.Cap)) > 0 {
			return false
		}
		over[l.From].Sub(over[l.From], f[i])
		over[l.To].Add(over[l.To], f[i])
	}
	return !slices.ContainsFunc(over, func(n *big.Rat) bool { return n.Sign() != 0 })
}

// fits tells whether the prices are such as chapter 16's R5 and R6 ask.
func fits(g api.Grid, steps []api.Step, x, f, p []*big.Rat) bool {
	for i, s := range steps {
		some, more := x[i].Sign() > 0, x[i].Cmp(bigOf(s.Qty)) < 0
		above := p[s.Zone].Cmp(bigOf(s.Price))
		if s.Buy {
			above = -above
		}
		if some && above < 0 || more && above > 0 {
			return false
		}
	}
	for i, l := range g.Lines {
		above := p[l.To].Cmp(p[l.From])
		if f[i].Cmp(bigOf(-l.Cap)) > 0 && above < 0 || f[i].Cmp(bigOf(l.Cap)) < 0 && above > 0 {
			return false
		}
	}
	return true
}

// solved is the hour, once it is known that it is as the words ask: what fits
// prices has the greatest welfare.
func solved(t *testing.T, g api.Grid, steps []api.Step, hour int, net []int) market.Hour {
	t.Helper()
	h, e := market.Solve(g, steps, hour, net)
	if e != api.OK {
		t.Fatalf("%+v, %+v, hour %d, net %v: error %d", g, steps, hour, net, e)
	}
	own := counting(g, steps, hour)
	if is := isFeasible(g, own, net); h.OK != is || !is && !isNothing(h) {
		t.Fatalf("%+v, %+v, hour %d, net %v: %+v, and something is feasible: %t", g, steps, hour, net, h, is)
	}
	if !h.OK {
		return h
	}
	x, isX := bigsOf(h.X)
	f, isF := bigsOf(h.F)
	p, isP := bigsOf(h.P)
	switch {
	case !isX || !isF || !isP || len(x) != len(own) || len(f) != len(g.Lines) || len(p) != g.Zones:
		t.Fatalf("%+v, %+v, hour %d, net %v: of another shape: %+v", g, steps, hour, net, h)
	case !isTaken(g, own, net, x, f):
		t.Fatalf("%+v, %+v, hour %d, net %v: not feasible: %+v", g, steps, hour, net, h)
	case worth(own, x).RatString() != h.Welfare:
		t.Fatalf("%+v, %+v, hour %d, net %v: of welfare %s: %+v", g, steps, hour, net, worth(own, x).RatString(), h)
	case !fits(g, own, x, f, p):
		t.Fatalf("%+v, %+v, hour %d, net %v: prices do not fit: %+v", g, steps, hour, net, h)
	}
	return h
}

// greatest goes through all whole parts of the steps: where limits are whole,
// some whole ones are as good as any. It tells whether there are some that are
// feasible.
func greatest(g api.Grid, steps []api.Step, net []int) (int, bool) {
	most, found := 0, false
	var on func(i, value int, net []int)
	on = func(i, value int, net []int) {
		if i == len(steps) {
			if isFeasible(g, nil, net) && (!found || value > most) {
				most, found = value, true
			}
			return
		}
		s := steps[i]
		for n := range s.Qty + 1 {
			sign := 1
			if s.Buy {
				sign = -1
			}
			rest := slices.Clone(net)
			rest[s.Zone] += sign * n
			on(i+1, value-sign*n*s.Price, rest)
		}
	}
	on(0, 0, net)
	return most, found
}

// drawn is a source of hours: the same ones each time.
type drawn struct{ *rand.Rand }

func draw(seed uint64) drawn { return drawn{rand.New(rand.NewPCG(seed, 15))} }

// near is a number no further from 0 than most.
func (r drawn) near(most int) int { return r.IntN(2*most+1) - most }

// step is one of hour 0.
func (r drawn) step(zones, qty, price int) api.Step {
	return api.Step{Who: "a", Seq: 1, Zone: r.IntN(zones), Buy: r.IntN(2) == 0, Qty: r.IntN(qty + 1), Price: r.near(price)}
}

func (r drawn) grid(most int) api.Grid {
	g := gridOf(1 + r.IntN(3))
	for range r.IntN(4) {
		if g.Zones > 1 {
			from := r.IntN(g.Zones)
			g.Lines = append(g.Lines, line(from, (from+1+r.IntN(g.Zones-1))%g.Zones, r.IntN(most+1)))
		}
	}
	return g
}

// asked is what Solve is handed.
type asked struct {
	g     api.Grid
	steps []api.Step
	hour  int
	net   []int
}

// hourOf has so many steps that count, and some that do not, among them.
func (r drawn) hourOf(many, qty, price int) asked {
	c := asked{g: r.grid(qty), hour: r.IntN(3)}
	for range many {
		c.steps = append(c.steps, inHour(c.hour, r.step(c.g.Zones, qty, price)))
	}
	for range r.IntN(3) {
		other := inHour(c.hour+1, r.step(c.g.Zones, qty, price))
		if r.IntN(2) == 0 {
			other.Hour, other.Zone = c.hour, []int{-1, c.g.Zones, 9}[r.IntN(3)]
		}
		c.steps = slices.Insert(c.steps, r.IntN(len(c.steps)+1), other)
	}
	c.net = make([]int, c.g.Zones)
	for zone := range c.net {
		if r.IntN(2) == 0 {
			c.net[zone] = r.near(qty)
		}
	}
	return c
}

// hours are drawn ones, of all sizes.
func hours() []asked {
	r := draw(1)
	var l []asked
	for range 400 {
		l = append(l, r.hourOf(r.IntN(12), []int{1, 3, 10, 1000}[r.IntN(4)], []int{1, 3, 50, 100000}[r.IntN(4)]))
	}
	return l
}

func TestP151AgainstTheModel(t *testing.T) {
	r := draw(2)
	for range 5000 {
		g := r.grid(5)
		hour := r.IntN(6) - 1
		var blocks []api.Block
		var accept []bool
		net := make([]int, g.Zones)
		for range r.IntN(6) {
			b := api.Block{Zone: r.IntN(6) - 1, Buy: r.IntN(2) == 0, Price: r.near(100000)}
			for range r.IntN(5) {
				b.Qty = append(b.Qty, r.near([]int{3, 1000, 100000}[r.IntN(3)]))
			}
			is := r.IntN(2) == 0
			blocks, accept = append(blocks, b), append(accept, is)
			if !is || b.Zone < 0 || b.Zone >= g.Zones {
				continue
			}
			for i, n := range b.Qty {
				switch {
				case i != hour:
				case b.Buy:
					net[b.Zone] -= n
				default:
					net[b.Zone] += n
				}
			}
		}
		wantNet(t, g, blocks, append(accept, all(r.IntN(3))...), hour, net...)
	}
}

// What a problem's rows ask is what the words do: of any parts and flows.
func TestP152AgainstTheWords(t *testing.T) {
	r := draw(3)
	kept := 0
	for _, c := range hours() {
		p := market.Build(c.g, c.steps, c.hour, c.net)
		own := counting(c.g, c.steps, c.hour)
		if len(p.C) != len(own)+len(c.g.Lines) || len(p.Rows) != len(p.C)+c.g.Zones {
			t.Fatalf("%+v: %+v", c, p)
		}
		for range 20 {
			var x, f []*big.Rat
			var all []int
			for _, s := range own {
				n := r.IntN(s.Qty + 1)
				x, all = append(x, bigOf(n)), append(all, n)
			}
			for _, l := range c.g.Lines {
				n := r.near(l.Cap)
				f, all = append(f, bigOf(n)), append(all, n+l.Cap)
			}
			// Some that are out of their limits, and some nets that they meet.
			net := slices.Clone(c.net)
			if r.IntN(2) == 0 {
				for zone := range net {
					net[zone] = 0
					for i, n := range p.Rows[len(p.C)+zone] {
						net[zone] -= n * all[i]
					}
					for _, l := range c.g.Lines {
						switch zone {
						case l.From:
							net[zone] -= l.Cap
						case l.To:
							net[zone] += l.Cap
						}
					}
				}
			}
			if i := r.IntN(len(all) + 1); i < len(all) && r.IntN(2) == 0 {
				n := r.near(2100)
				all[i] += n
				if i < len(x) {
					x[i] = bigOf(all[i])
				} else {
					f[i-len(x)] = bigOf(all[i] - c.g.Lines[i-len(x)].Cap)
				}
			}
			is := isTaken(c.g, own, net, x, f)
			if is {
				kept++
			}
			if isMet(market.Build(c.g, c.steps, c.hour, net).Rows, market.Build(c.g, c.steps, c.hour, net).B, all) != is {
				t.Fatalf("%+v, net %v, %v: feasible %t", c, net, all, is)
			}
			value := 0
			for i, n := range all {
				value += p.C[i] * n
			}
			if bigOf(value).Cmp(worth(own, x)) != 0 {
				t.Fatalf("%+v, %v: of welfare %d", c, all, value)
			}
		}
	}
	if kept < 1000 || kept > 6000 {
		t.Errorf("%d are feasible", kept)
	}
}

// isMet tells whether the numbers are at least 0 and meet the rows: one of
// each number with at most, and behind these such with the same.
func isMet(rows [][]int, right, all []int) bool {
	for i, row := range rows {
		sum := 0
		for j, n := range row {
			sum += n * all[j]
		}
		if i < len(all) && (all[i] < 0 || sum > right[i]) || i >= len(all) && sum != right[i] {
			return false
		}
	}
	return true
}

func TestP153AgainstTheModel(t *testing.T) {
	ok, trades, full := 0, 0, 0
	for _, c := range hours() {
		h := solved(t, c.g, c.steps, c.hour, c.net)
		if !h.OK {
			continue
		}
		ok++
		if slices.ContainsFunc(h.X, func(x string) bool { return x != "0" }) {
			trades++
		}
		for i, l := range c.g.Lines {
			if f := h.F[i]; l.Cap > 0 && (f == bigOf(l.Cap).RatString() || f == bigOf(-l.Cap).RatString()) {
				full++
			}
		}
	}
	if ok < 100 || ok > 390 || trades < 100 || full < 50 {
		t.Errorf("%d feasible, %d with trades, %d full lines", ok, trades, full)
	}
}

// Small hours, all whose parts are gone through.
func TestP153Greatest(t *testing.T) {
	r := draw(4)
	none := 0
	for range 2000 {
		c := r.hourOf(r.IntN(5), 1+r.IntN(3), []int{1, 2, 9}[r.IntN(3)])
		most, is := greatest(c.g, counting(c.g, c.steps, c.hour), c.net)
		h := solved(t, c.g, c.steps, c.hour, c.net)
		if h.OK != is || is && h.Welfare != bigOf(most).RatString() {
			t.Errorf("%+v: %+v, not %d", c, h, most)
		}
		if !is {
			none++
		}
	}
	if none < 300 || none > 1700 {
		t.Errorf("nothing is feasible in %d", none)
	}
}

func TestP154AgainstTheModel(t *testing.T) {
	r := draw(6)
	for range 3000 {
		var steps []api.Step
		var x []*big.Rat
		var texts string
		for range r.IntN(6) {
			s := inHour(r.IntN(4), r.step(5, 1000, 100000))
			n := big.NewRat(r.Int64N(2000001)-1000000, 1+r.Int64N([]int64{1, 6, 1000000}[r.IntN(3)]))
			steps, x, texts = append(steps, s), append(x, n), texts+" "+n.RatString()
		}
		sum := worth(steps, x)
		var blocks []api.Block
		var accept []bool
		for range r.IntN(5) {
			b := api.Block{Zone: r.IntN(6) - 1, Buy: r.IntN(2) == 0, Price: r.near(100000)}
			is := r.IntN(2) == 0
			for range r.IntN(4) {
				n := r.near(100000)
				b.Qty = append(b.Qty, n)
				if is {
					sum.Add(sum, worth([]api.Step{{Buy: b.Buy, Price: b.Price}}, []*big.Rat{bigOf(n)}))
				}
			}
			blocks, accept = append(blocks, b), append(accept, is)
		}
		wantWelfare(t, steps, texts, blocks, append(accept, all(r.IntN(3))...), sum.RatString())
	}
}

// An hour's welfare is what Welfare tells of its steps.
func TestP154OfWhatIsSolved(t *testing.T) {
	for _, c := range hours() {
		h := solved(t, c.g, c.steps, c.hour, c.net)
		if got := market.Welfare(counting(c.g, c.steps, c.hour), h.X, nil, nil); h.OK && got != h.Welfare {
			t.Errorf("%+v: %+v; Welfare %q", c, h, got)
		}
	}
}
