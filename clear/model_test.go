package clear_test

import (
	"cmp"
	"fmt"
	"math/big"
	"math/rand/v2"
	"slices"
	"testing"

	"noonbell/api"
	"noonbell/clear"
	"noonbell/market"
	"noonbell/price"
)

// Two models go through all accepts: members by the layers that the document
// names, plain by whole numbers alone.

func ratOf(text string) *big.Rat {
	n, is := new(big.Rat).SetString(text)
	if !is || n.RatString() != text {
		panic(text)
	}
	return n
}

// member is an accept that there may be, and its welfare.
type member struct {
	accept  []bool
	welfare *big.Rat
}

// best is the greatest welfare of them.
func best(l []member) *big.Rat {
	return slices.MaxFunc(l, func(a, b member) int { return a.welfare.Cmp(b.welfare) }).welfare
}

// accepts are all that there are.
func (d day) accepts() [][]bool {
	var l [][]bool
	for set := range 1 << len(d.blocks) {
		accept := make([]bool, len(d.blocks))
		for i := range accept {
			accept[i] = set>>i&1 > 0
		}
		l = append(l, accept)
	}
	return l
}

// isLinked tells whether each parent is accepted, too, and no two of a group.
func (d day) isLinked(accept []bool) bool {
	for i, a := range d.blocks {
		hasParent := a.Parent <= 0
		for j, b := range d.blocks {
			if a.Who != b.Who || !accept[j] {
				continue
			}
			hasParent = hasParent || b.Seq == a.Parent
			if accept[i] && i != j && a.Group > 0 && a.Group == b.Group {
				return false
			}
		}
		if accept[i] && !hasParent {
			return false
		}
	}
	return true
}

// members are all that there are; the first accepts no block.
func members(t *testing.T, d day) []member {
	t.Helper()
	var l []member
	for _, accept := range d.accepts() {
		if welfare, is := d.memberOf(accept); is && d.isLinked(accept) {
			l = append(l, member{accept, welfare})
		}
	}
	if len(l) == 0 || slices.Contains(l[0].accept, true) {
		t.Fatalf("to accept nothing is no member's: %+v", d)
	}
	return l
}

// memberOf is its welfare, if it is feasible, and there are prices.
func (d day) memberOf(accept []bool) (*big.Rat, bool) {
	x, f := make([]string, len(d.steps)), [][]string{}
	welfare := new(big.Rat)
	for hour := range d.g.Hours {
		h, e := market.Solve(d.g, d.steps, hour, market.Net(d.g, d.blocks, accept, hour))
		if e != api.OK || !h.OK {
			return nil, false
		}
		welfare.Add(welfare, ratOf(h.Welfare))
		f = append(f, h.F)
		for i, s := range d.steps {
			if s.Hour == hour {
				x[i], h.X = h.X[0], h.X[1:]
			}
		}
	}
	_, is := price.Find(d.g, d.steps, d.blocks, accept, x, f)
	return welfare.Add(welfare, d.ofBlocks(accept)), is
}

// ofBlocks is the welfare of those that are accepted.
func (d day) ofBlocks(accept []bool) *big.Rat {
	sum := 0
	for i, b := range d.blocks {
		for _, qty := range b.Qty {
			if accept[i] {
				sum += worth(b.Buy, qty*b.Price)
			}
		}
	}
	return big.NewRat(int64(sum), 1)
}

func worth(buy bool, n int) int {
	if buy {
		return n
	}
	return -n
}

// taken is what is taken of the steps, and what flows, in one hour.
type taken struct {
	x, f    []int
	welfare int
}

// plain is memberOf by whole numbers: all flows are gone through, and in each
// zone the cheapest units are taken.
func (d day) plain(accept []bool) (*big.Rat, bool) {
	x, f, welfare := make([]int, len(d.steps)), [][]int{}, 0
	for hour := range d.g.Hours {
		h, is := d.plainHour(accept, hour)
		if !is {
			return nil, false
		}
		f, welfare = append(f, h.f), welfare+h.welfare
		for i := range x {
			x[i] += h.x[i]
		}
	}
	sum := big.NewRat(int64(welfare), 1)
	return sum.Add(sum, d.ofBlocks(accept)), canHold(d.relations(accept, x, f), d.g.Hours*d.g.Zones)
}

func (d day) plainHour(accept []bool, hour int) (taken, bool) {
	most, is := taken{}, false
	for _, f := range d.flows() {
		if h, may := d.plainFlow(accept, hour, f); may && (!is || h.welfare > most.welfare) {
			most, is = h, true
		}
	}
	return most, is
}

// flows are all whole ones.
func (d day) flows() [][]int {
	l := [][]int{nil}
	for _, line := range d.g.Lines {
		var longer [][]int
		for _, f := range l {
			for n := -line.Cap; n <= line.Cap; n++ {
				longer = append(longer, append(slices.Clone(f), n))
			}
		}
		l = longer
	}
	return l
}

func (d day) plainFlow(accept []bool, hour int, f []int) (taken, bool) {
	h := taken{x: make([]int, len(d.steps)), f: f}
	for zone := range d.g.Zones {
		// So much is left over, if who sells gives nothing, and who buys takes
		// all.
		over := 0
		for i, line := range d.g.Lines {
			if line.From == zone {
				over -= f[i]
			}
			if line.To == zone {
				over += f[i]
			}
		}
		for i, b := range d.blocks {
			if accept[i] && b.Zone == zone {
				over -= worth(b.Buy, b.Qty[hour])
			}
		}
		units := []int{}
		for i, s := range d.steps {
			if s.Zone != zone || s.Hour != hour {
				continue
			}
			units = append(units, slices.Repeat([]int{i}, s.Qty)...)
			if s.Buy {
				over, h.x[i], h.welfare = over-s.Qty, s.Qty, h.welfare+s.Qty*s.Price
			}
		}
		slices.SortStableFunc(units, func(i, j int) int { return cmp.Compare(d.steps[i].Price, d.steps[j].Price) })
		if over > 0 || -over > len(units) {
			return taken{}, false
		}
		// A unit more is sold, or one less is bought.
		for _, i := range units[:-over] {
			h.x[i] -= worth(d.steps[i].Buy, 1)
			h.welfare -= d.steps[i].Price
		}
	}
	return h, true
}

// relation is that the prices, each so many times, are at most right.
type relation struct {
	times []*big.Rat
	right *big.Rat
}

// relations are all that is asked of the prices, hour by hour and zone by zone.
func (d day) relations(accept []bool, x []int, f [][]int) []relation {
	var l []relation
	// The sum has this sign less right, or is right.
	ask := func(sign, right int, times map[[2]int]int) {
		r := relation{right: big.NewRat(int64(-sign*right), 1)}
		for hour := range d.g.Hours {
			for zone := range d.g.Zones {
				r.times = append(r.times, big.NewRat(int64(-sign*times[[2]int{hour, zone}]), 1))
			}
		}
		l = append(l, r)
	}
	for hour := range d.g.Hours {
		for zone := range d.g.Zones {
			ask(1, d.g.Low, map[[2]int]int{{hour, zone}: 1})
			ask(-1, d.g.High, map[[2]int]int{{hour, zone}: 1})
		}
		for i, line := range d.g.Lines {
			rise := map[[2]int]int{{hour, line.To}: 1, {hour, line.From}: -1}
			if f[hour][i] > -line.Cap {
				ask(1, 0, rise)
			}
			if f[hour][i] < line.Cap {
				ask(-1, 0, rise)
			}
		}
	}
	for i, s := range d.steps {
		at := map[[2]int]int{{s.Hour, s.Zone}: 1}
		if x[i] > 0 {
			ask(-worth(s.Buy, 1), s.Price, at)
		}
		if x[i] < s.Qty {
			ask(worth(s.Buy, 1), s.Price, at)
		}
	}
	for i, b := range d.blocks {
		at, own := map[[2]int]int{}, 0
		for hour, qty := range b.Qty {
			at[[2]int{hour, b.Zone}] = qty
			own += qty * b.Price
		}
		if accept[i] {
			ask(-worth(b.Buy, 1), own, at)
		}
	}
	return l
}

// canHold tells whether some prices hold all, by Fourier's and Motzkin's way:
// one price after the other is done without.
func canHold(l []relation, prices int) bool {
	for range prices {
		l = strictest(l)
		l = without(l, cheapest(l, prices))
	}
	return !slices.ContainsFunc(l, func(r relation) bool { return r.right.Sign() < 0 })
}

// strictest keeps of those that differ in right alone the one that asks most.
func strictest(l []relation) []relation {
	at := map[string]int{}
	var kept []relation
	for _, r := range l {
		if i := slices.IndexFunc(r.times, func(n *big.Rat) bool { return n.Sign() != 0 }); i >= 0 {
			r = r.by(new(big.Rat).Inv(new(big.Rat).Abs(r.times[i])))
		}
		name := fmt.Sprint(r.times)
		if i, is := at[name]; !is {
			at[name] = len(kept)
			kept = append(kept, r)
		} else if r.right.Cmp(kept[i].right) < 0 {
			kept[i] = r
		}
	}
	return kept
}

// by is the same, n times.
func (r relation) by(n *big.Rat) relation {
	s := relation{right: new(big.Rat).Mul(r.right, n)}
	for _, m := range r.times {
		s.times = append(s.times, new(big.Rat).Mul(m, n))
	}
	return s
}

// cheapest is the price that the fewest relations come of, of those that there
// still are.
func cheapest(l []relation, prices int) int {
	best, cost := 0, -1
	for j := range prices {
		counts := map[int]int{}
		for _, r := range l {
			counts[r.times[j].Sign()]++
		}
		if all := counts[1] * counts[-1]; counts[1]+counts[-1] > 0 && (cost < 0 || all < cost) {
			best, cost = j, all
		}
	}
	return best
}

func without(l []relation, j int) []relation {
	var rest []relation
	for _, a := range l {
		if a.times[j].Sign() == 0 {
			rest = append(rest, a)
		}
		for _, b := range l {
			if a.times[j].Sign() > 0 && b.times[j].Sign() < 0 {
				c, d := a.by(new(big.Rat).Neg(b.times[j])), b.by(a.times[j])
				c.right.Add(c.right, d.right)
				for i := range c.times {
					c.times[i].Add(c.times[i], d.times[i])
				}
				rest = append(rest, c)
			}
		}
	}
	return rest
}

// size is what is drawn, at most.
type size struct{ zones, hours, steps, blocks, qty, price int }

// days are drawn ones, of all sizes up to this one; the same each time.
func days(seed uint64, many int, most size) []day {
	r := rand.New(rand.NewPCG(seed, 18))
	var l []day
	for range many {
		s := most
		if s.qty == 0 {
			s.qty = []int{2, 5, 40, 1000}[r.IntN(4)]
		}
		if s.price == 0 {
			s.price = []int{2, 10, 100, 100000}[r.IntN(4)]
		}
		l = append(l, drawn(r, s))
	}
	return l
}

func drawn(r *rand.Rand, most size) day {
	d := day{g: gridOf(1+r.IntN(most.zones), 1+r.IntN(most.hours))}
	d.g.Low, d.g.High = -r.IntN(most.price+1), most.price
	if d.g.Zones > 1 {
		for range r.IntN(4) {
			from := r.IntN(d.g.Zones)
			d.g.Lines = append(d.g.Lines, line(from, (from+1+r.IntN(d.g.Zones-1))%d.g.Zones, r.IntN(most.qty+1)))
		}
	}
	priced := func() int { return d.g.Low + r.IntN(d.g.High-d.g.Low+1) }
	names := []string{"a", "b"}
	for i := range r.IntN(most.steps + 1) {
		d.steps = append(d.steps, api.Step{Who: names[r.IntN(2)], Seq: i + 1, Zone: r.IntN(d.g.Zones), Hour: r.IntN(d.g.Hours), Buy: r.IntN(2) == 0, Qty: 1 + r.IntN(most.qty), Price: priced()})
	}
	for i := range r.IntN(most.blocks + 1) {
		b := api.Block{Who: names[r.IntN(2)], Seq: i + 1, Zone: r.IntN(d.g.Zones), Buy: r.IntN(2) == 0, Price: priced(), Group: max(-1, r.IntN(6)-3)}
		for range d.g.Hours {
			b.Qty = append(b.Qty, r.IntN(most.qty+1))
		}
		b.Qty[r.IntN(d.g.Hours)] = 1 + r.IntN(most.qty)
		d.blocks = append(d.blocks, b)
	}
	d.family(r)
	slices.SortStableFunc(d.steps, func(a, b api.Step) int { return cmp.Compare(a.Who, b.Who) })
	slices.SortStableFunc(d.blocks, func(a, b api.Block) int { return cmp.Compare(a.Who, b.Who) })
	return d
}

// family makes some blocks parents of others, be they ahead of them or behind
// them.
func (d day) family(r *rand.Rand) {
	order := r.Perm(len(d.blocks))
	for at, i := range order {
		for _, j := range order[:at] {
			if d.blocks[i].Who == d.blocks[j].Who && r.IntN(4) == 0 {
				d.blocks[i].Parent = d.blocks[j].Seq
			}
		}
	}
}

// The two models tell the same members.
func TestTheModels(t *testing.T) {
	told := map[string]int{}
	for _, d := range days(2, 400, size{zones: 3, hours: 3, steps: 9, blocks: 3, qty: 2, price: 6}) {
		for _, accept := range d.accepts() {
			a, is := d.memberOf(accept)
			b, also := d.plain(accept)
			if is != also || is && a.Cmp(b) != 0 {
				t.Errorf("%+v, %v: %v %t, %v %t", d, accept, a, is, b, also)
			}
			switch {
			case is:
				told["has prices"]++
			case a == nil:
				told["is not feasible"]++
			default:
				told["has no prices"]++
			}
		}
	}
	if told["has prices"] < 200 || told["is not feasible"] < 100 || told["has no prices"] < 100 {
		t.Error(told)
	}
}

// What is drawn is told as the models tell it: within enough nodes the best.
func TestP181AgainstTheModel(t *testing.T) {
	told := map[string]int{}
	for _, d := range days(3, 400, size{zones: 3, hours: 3, steps: 10, blocks: 4}) {
		l := members(t, d)
		r := cleared(t, fmt.Sprintf("%+v", d), d, l, d.nodes())
		count := 0
		for _, is := range r.Accept {
			if is {
				count++
			}
		}
		told[fmt.Sprint(count, " accepted")]++
		if d.temptation(l) {
			told["worth more, but no member"]++
		}
	}
	for _, what := range []string{"0 accepted", "1 accepted", "2 accepted", "worth more, but no member"} {
		if told[what] < 15 {
			t.Errorf("%v: too few of %q", told, what)
		}
	}
}

// temptation tells whether an accept that keeps links and groups, and is
// feasible, is worth more than each member.
func (d day) temptation(l []member) bool {
	for _, accept := range d.accepts() {
		if welfare, _ := d.memberOf(accept); welfare != nil && d.isLinked(accept) && welfare.Cmp(best(l)) > 0 {
			return true
		}
	}
	return false
}

// To accept nothing may be done always, so there always is a result.
func TestP182ThereIsAMember(t *testing.T) {
	for _, d := range days(4, 200, size{zones: 3, hours: 3, steps: 16, blocks: 3}) {
		l := members(t, d)
		for _, n := range []int{1, 2} {
			cleared(t, fmt.Sprintf("%+v", d), d, l, n)
		}
	}
	// Nothing else may: each block alone is more than can be.
	for _, d := range days(5, 50, size{zones: 3, hours: 3, steps: 6, blocks: 1, qty: 10}) {
		d.blocks = nil
		for i := range 12 {
			b := gives("c", i+1, i%d.g.Zones, d.g.Low, slices.Repeat([]int{1000}, d.g.Hours)...)
			b.Buy, b.Price = i >= 6, d.g.Low+(d.g.High-d.g.Low)*(i/6)
			if b.Buy {
				b.Qty[0] = 900
			}
			d.blocks = append(d.blocks, b)
		}
		none := make([]bool, len(d.blocks))
		r, e := clear.Clear(d.g, d.steps, d.blocks, 1)
		welfare, _ := d.memberOf(none)
		if e != api.OK || !slices.Equal(r.Accept, none) || r.Welfare != welfare.RatString() {
			t.Errorf("%+v: %+v, %d", d, r, e)
		}
	}
}
