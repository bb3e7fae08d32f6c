package clear_test

import (
	"fmt"
	"reflect"
	"slices"
	"testing"

	"noonbell/api"
	"noonbell/clear"
	"noonbell/result"
)

const (
	least    = -1 << 63
	greatest = 1<<63 - 1
)

// gridOf is one whose prices are from -500 to 3000.
func gridOf(zones, hours int, lines ...api.Line) api.Grid {
	return api.Grid{Zones: zones, Hours: hours, Lines: lines, Low: -500, High: 3000}
}

func line(from, to, capacity int) api.Line {
	return api.Line{From: from, To: to, Cap: capacity}
}

// sells and buys are steps of hour 0.
func sells(who string, seq, zone, qty, price int) api.Step {
	return api.Step{Who: who, Seq: seq, Zone: zone, Qty: qty, Price: price}
}

func buys(who string, seq, zone, qty, price int) api.Step {
	return api.Step{Who: who, Seq: seq, Zone: zone, Buy: true, Qty: qty, Price: price}
}

// inHour is the step in that hour.
func inHour(hour int, s api.Step) api.Step {
	s.Hour = hour
	return s
}

// gives and takes are blocks.
func gives(who string, seq, zone, price int, qty ...int) api.Block {
	return api.Block{Who: who, Seq: seq, Zone: zone, Price: price, Qty: qty}
}

func takes(who string, seq, zone, price int, qty ...int) api.Block {
	return api.Block{Who: who, Seq: seq, Zone: zone, Buy: true, Price: price, Qty: qty}
}

// below is the block with that parent.
func below(parent int, b api.Block) api.Block {
	b.Parent = parent
	return b
}

// ofGroup is the block in that group.
func ofGroup(group int, b api.Block) api.Block {
	b.Group = group
	return b
}

// marks are what is accepted: an x each.
func marks(line string) []bool {
	l := []bool{}
	for _, r := range line {
		l = append(l, r == 'x')
	}
	return l
}

// day is all that Clear is handed, but for n.
type day struct {
	g      api.Grid
	steps  []api.Step
	blocks []api.Block
}

// example is the document's: a sells 10 at 20, b buys 6 at 50.
func example(blocks ...api.Block) day {
	return day{
		api.Grid{Zones: 1, Hours: 1, High: 100},
		[]api.Step{sells("a", 1, 0, 10, 20), buys("b", 1, 0, 6, 50)},
		blocks,
	}
}

// copied shares no lists with it.
func (d day) copied() day {
	d.g.Lines, d.steps, d.blocks = slices.Clone(d.g.Lines), slices.Clone(d.steps), slices.Clone(d.blocks)
	for i, b := range d.blocks {
		d.blocks[i].Qty = slices.Clone(b.Qty)
	}
	return d
}

// with is one that is changed.
func (d day) with(changes ...func(d *day)) day {
	d = d.copied()
	for _, change := range changes {
		change(&d)
	}
	return d
}

// nodes are so many that the result must be optimal.
func (d day) nodes() int { return 2 << len(d.blocks) }

func wantErr(t *testing.T, what string, d day, n int) {
	t.Helper()
	r, e := clear.Clear(d.g, d.steps, d.blocks, n)
	if e != api.ErrArg || !reflect.DeepEqual(r, api.Result{}) {
		t.Errorf("%s, %d nodes: %+v, %d", what, n, r, e)
	}
}

// cleared is what is answered; it fulfils the promise, whatever it is.
func cleared(t *testing.T, what string, d day, l []member, n int) api.Result {
	t.Helper()
	r, e := clear.Clear(d.g, d.steps, d.blocks, n)
	if e != api.OK {
		t.Fatalf("%s, %d nodes: %d", what, n, e)
	}
	if is := result.Check(d.g, d.steps, d.blocks, r); is != 0 {
		t.Errorf("%s, %d nodes: it breaks rule %d: %+v", what, n, is, r)
	}
	isMember := false
	for _, m := range l {
		if slices.Equal(m.accept, r.Accept) {
			isMember = m.welfare.RatString() == r.Welfare
		}
		if ratOf(r.Upper).Cmp(m.welfare) < 0 {
			t.Errorf("%s, %d nodes: %v has %v, and the bound is %s", what, n, m.accept, m.welfare, r.Upper)
		}
	}
	if !isMember {
		t.Errorf("%s, %d nodes: no member's: %+v", what, n, r)
	}
	if r.Nodes < 0 || r.Nodes > n {
		t.Errorf("%s: %d of %d nodes", what, r.Nodes, n)
	}
	if r.Optimal && r.Welfare != best(l).RatString() {
		t.Errorf("%s, %d nodes: %s is not optimal, %v is", what, n, r.Welfare, best(l))
	}
	if n >= d.nodes() && !r.Optimal {
		t.Errorf("%s, %d nodes: not optimal: %+v", what, n, r)
	}
	return r
}

// wantDay holds that what is optimal has this welfare, and is told within as
// many nodes as the document says; and that for each n what is told may be.
// One of the accepts is answered.
func wantDay(t *testing.T, what string, d day, welfare string, accepts ...string) {
	t.Helper()
	l := members(t, d)
	if got := best(l).RatString(); got != welfare {
		t.Errorf("%s: of the members the best has %s, not %s", what, got, welfare)
	}
	for n := 1; n < d.nodes()+2; n++ {
		cleared(t, what, d, l, n)
	}
	for _, n := range []int{d.nodes(), 1 << 32, greatest - 1, greatest} {
		r := cleared(t, what, d, l, n)
		is := func(accept string) bool { return slices.Equal(marks(accept), r.Accept) }
		if r.Welfare != welfare || r.Upper != welfare || !r.Optimal || !slices.ContainsFunc(accepts, is) {
			t.Errorf("%s, %d nodes: %+v, not %s of %q", what, n, r, welfare, accepts)
		}
	}
}

func TestP181Examples(t *testing.T) {
	d := example()
	if r, e := clear.Clear(d.g, d.steps, d.blocks, 2); e != api.OK || r.Welfare != "180" || !r.Optimal {
		t.Errorf("%+v, %d", r, e)
	}
	wantDay(t, "no blocks", d, "180", "")
	d = example(takes("c", 1, 0, 30, 4))
	if r, e := clear.Clear(d.g, d.steps, d.blocks, 4); e != api.OK || r.Welfare != "220" || !r.Accept[0] {
		t.Errorf("%+v, %d", r, e)
	}
	wantDay(t, "a block that buys", d, "220", "x")
	d = example(gives("c", 1, 0, 0, 20))
	if r, e := clear.Clear(d.g, d.steps, d.blocks, 4); e != api.OK || r.Welfare != "180" || r.Accept[0] {
		t.Errorf("%+v, %d", r, e)
	}
	wantDay(t, "nobody takes 20", d, "180", ".")
}

func TestP181NoOrders(t *testing.T) {
	for zones := 1; zones <= 3; zones++ {
		for hours := 1; hours <= 3; hours++ {
			d := day{g: gridOf(zones, hours)}
			wantDay(t, "no orders", d, "0", "")
			qty := slices.Repeat([]int{1}, hours)
			d.blocks = []api.Block{gives("a", 1, 0, -500, qty...)}
			wantDay(t, "a block, no steps", d, "0", ".")
			// Who sells and who buys has each other: in its own zone.
			d.blocks = append(d.blocks, takes("b", 1, 0, 3000, qty...))
			wantDay(t, "two blocks, no steps", d, fmt.Sprint(3500*hours), "xx")
			d.blocks[1].Qty = slices.Repeat([]int{2}, hours)
			wantDay(t, "two blocks that do not match", d, "0", "..")
			if zones > 1 {
				d.blocks[1] = takes("b", 1, 1, 3000, qty...)
				wantDay(t, "blocks of two zones", d, "0", "..")
				d.g.Lines = []api.Line{line(1, 0, 1)}
				wantDay(t, "and a line", d, fmt.Sprint(3500*hours), "xx")
			}
		}
	}
}

// Nodes just as many as the document says, and one less: of no, one, two and
// three blocks.
func TestP181NodesThatMustDo(t *testing.T) {
	blocks := []api.Block{gives("c", 1, 0, 22, 3), takes("c", 2, 0, 33, 4), gives("d", 1, 0, 19, 4)}
	for many, welfare := range []string{"180", "180", "232", "236"} {
		d := example(blocks[:many]...)
		l := members(t, d)
		if got := best(l).RatString(); got != welfare {
			t.Errorf("%d blocks: %s, not %s", many, got, welfare)
		}
		for _, n := range []int{d.nodes() - 1, d.nodes(), d.nodes() + 1, d.nodes() << 20} {
			cleared(t, fmt.Sprint(many, " blocks"), d, l, n)
		}
	}
}

// What is found within few nodes may be less than what there is; then the bound
// is above it.
func TestP181FewNodes(t *testing.T) {
	notOptimal, atOnce := 0, 0
	for _, d := range days(1, 100, size{zones: 3, hours: 3, steps: 9, blocks: 4}) {
		l := members(t, d)
		for n := 1; n <= d.nodes(); n++ {
			r := cleared(t, fmt.Sprintf("%+v", d), d, l, n)
			if !r.Optimal {
				notOptimal++
			} else if n < d.nodes() {
				atOnce++
			}
		}
	}
	if notOptimal < 20 || atOnce < 200 {
		t.Errorf("%d times not optimal, %d times with less nodes than must do", notOptimal, atOnce)
	}
}

// A block that is worth more than what it does without, and would lose at every
// price that fits.
func TestP181WorthMoreAndLoses(t *testing.T) {
	d := example().with(func(d *day) { d.steps[1].Qty = 12 })
	wantDay(t, "none", d, "300", "")
	// With it a has not all, and the price is 20; all is worth 320.
	d.blocks = []api.Block{gives("c", 1, 0, 30, 4)}
	wantDay(t, "at 30", d, "300", ".")
	d.blocks[0].Price = 21
	wantDay(t, "at 21", d, "300", ".")
	d.blocks[0].Price = 20
	wantDay(t, "at 20", d, "360", "x")
	d.blocks[0] = gives("c", 1, 0, 49, 2)
	// The price is 20 to 50, then.
	wantDay(t, "all of both", d, "302", "x")
	d.blocks[0] = gives("c", 1, 0, 50, 2)
	wantDay(t, "at the price that it has without", d, "300", "x", ".")
	// Who buys, alike.
	d = example().with(func(d *day) { d.steps[0].Qty = 4 })
	d.blocks = []api.Block{takes("c", 1, 0, 49, 2)}
	wantDay(t, "who buys", d, "120", ".")
	d.blocks[0].Price = 50
	wantDay(t, "who buys at 50", d, "120", "x", ".")
	d.blocks[0].Price = 51
	wantDay(t, "who buys at 51", d, "122", "x")
}

// One whose welfare is just that without it.
func TestP181NoWorthOfItsOwn(t *testing.T) {
	for qty := 1; qty <= 6; qty++ {
		wantDay(t, "in a's stead", example(gives("c", 1, 0, 20, qty)), "180", "x", ".")
	}
	for qty := 1; qty <= 4; qty++ {
		wantDay(t, "beside b", example(takes("c", 1, 0, 20, qty)), "180", "x", ".")
	}
	wantDay(t, "beside b, more than there is", example(takes("c", 1, 0, 20, 5)), "180", ".")
}

// What pays in one hour alone is taken in all or none.
func TestP181SeveralHours(t *testing.T) {
	d := day{g: gridOf(1, 3)}
	for hour := range 3 {
		d.steps = append(d.steps, inHour(hour, sells("a", hour+1, 0, 10, 20)))
	}
	for hour, price := range []int{50, 40, 30} {
		d.steps = append(d.steps, inHour(hour, buys("b", hour+1, 0, 6, price)))
	}
	wantDay(t, "steps alone", d, "360", "")
	block := func(b api.Block, welfare string, accepts ...string) {
		t.Helper()
		d.blocks = []api.Block{b}
		wantDay(t, fmt.Sprintf("%+v", b), d, welfare, accepts...)
	}
	block(takes("c", 1, 0, 25, 4, 4, 4), "420", "x")
	block(takes("c", 1, 0, 19, 4, 4, 4), "360", ".")
	block(takes("c", 1, 0, 25, 4, 4, 0), "400", "x")
	block(takes("c", 1, 0, 25, 0, 0, 4), "380", "x")
	// It drives the price of the last hour up to 30, where it loses; in the one
	// ahead of it, it gains what it can at 20.
	block(takes("c", 1, 0, 26, 0, 4, 5), "404", "x")
	block(takes("c", 1, 0, 25, 0, 4, 5), "360", ".")
	block(gives("c", 1, 0, 15, 6, 6, 6), "450", "x")
	block(gives("c", 1, 0, 20, 6, 6, 6), "360", "x", ".")
	block(gives("c", 1, 0, 21, 1, 1, 1), "360", ".")
	block(gives("c", 1, 0, 0, 7, 0, 0), "360", ".")
	block(gives("c", 1, 0, 0, 6, 0, 7), "360", ".")
}

// Of a parent and its child one alone pays, or both do.
func TestP181ParentsAndChildren(t *testing.T) {
	family := func(what string, parent, child api.Block, welfare string, accepts ...string) {
		t.Helper()
		wantDay(t, what, example(parent, below(1, child)), welfare, accepts...)
		// The parent may stand behind its child, too.
		child.Seq, parent.Seq = 1, 2
		var turned []string
		for _, accept := range accepts {
			turned = append(turned, accept[1:]+accept[:1])
		}
		wantDay(t, what+", turned", example(below(2, child), parent), welfare, turned...)
	}
	family("both pay", gives("c", 1, 0, 15, 2), gives("c", 2, 0, 10, 3), "220", "xx")
	family("the parent alone", gives("c", 1, 0, 15, 2), gives("c", 2, 0, 25, 3), "190", "x.")
	family("the child alone", gives("c", 1, 0, 25, 2), gives("c", 2, 0, 10, 3), "180", "..")
	family("the parent is worth nothing", gives("c", 1, 0, 20, 2), gives("c", 2, 0, 10, 3), "210", "xx")
	family("neither", gives("c", 1, 0, 25, 2), gives("c", 2, 0, 21, 3), "180", "..")
	family("the child takes what the parent gives", gives("c", 1, 0, 10, 20), takes("c", 2, 0, 22, 18), "416", "xx")
	family("nobody takes what the parent gives", gives("c", 1, 0, 10, 20), takes("c", 2, 0, 22, 13), "180", "..")
	family("the child takes for less than a asks", gives("c", 1, 0, 10, 20), takes("c", 2, 0, 15, 18), "180", "..")
	// Three in a line: the last one pays for none of them.
	line := []api.Block{gives("c", 1, 0, 20, 1), below(1, gives("c", 2, 0, 20, 1)), below(2, gives("c", 3, 0, 10, 2))}
	wantDay(t, "a line of three", example(line...), "200", "xxx")
	line[1].Price = 21
	wantDay(t, "the second one loses", example(line...), "180", "...", "x..")
	line[1].Price, line[0].Price = 20, 21
	wantDay(t, "the first one loses", example(line...), "180", "...")
	// Another participant's has the same Seq.
	two := []api.Block{gives("c", 1, 0, 25, 2), below(1, gives("c", 2, 0, 10, 3)), gives("d", 1, 0, 15, 1)}
	wantDay(t, "another one's", example(two...), "185", "..x")
	// A parent below 0 is none.
	wantDay(t, "no parent", example(gives("c", 1, 0, 25, 2), below(-1, gives("c", 2, 0, 10, 3))), "210", ".x")
	wantDay(t, "another one's, ahead", twoHours(gives("b", 1, 0, 26, 2, 2), gives("c", 1, 0, 24, 2, 2), below(1, gives("c", 2, 0, 23, 2, 2))), "312", ".xx")
	// Nor is 0, though it is a Seq.
	wantDay(t, "no parent, but a Seq", twoHours(gives("c", 0, 0, 26, 2, 2), gives("c", 1, 0, 24, 2, 2)), "304", ".x")
	wantDay(t, "no parent, below", twoHours(gives("c", -1, 0, 26, 2, 2), below(-1, gives("c", 1, 0, 24, 2, 2))), "304", ".x")
}

// twoHours are such that what sells in both would rather sell in the first
// alone: it has 30 there, and 20 in the other.
func twoHours(blocks ...api.Block) day {
	steps := []api.Step{
		sells("a", 1, 0, 10, 30), inHour(1, sells("a", 2, 0, 10, 20)),
		buys("b", 1, 0, 6, 50), inHour(1, buys("b", 2, 0, 6, 50)),
	}
	return day{gridOf(1, 2), steps, blocks}
}

// What cannot be accepted with what is decided is not gone into.
func TestP181FewMayBe(t *testing.T) {
	var line, group []api.Block
	for i := range 12 {
		b := gives("c", i+1, 0, 19+i%7, 1, 1)
		line, group = append(line, below(i, b)), append(group, ofGroup(1, b))
	}
	for what, blocks := range map[string][]api.Block{"a line": line, "a group": group} {
		d := twoHours(blocks...)
		for _, d := range []day{d, d.with(func(d *day) { slices.Reverse(d.blocks); renumber(d.blocks) })} {
			r, e := clear.Clear(d.g, d.steps, d.blocks, d.nodes())
			if is := result.Check(d.g, d.steps, d.blocks, r); e != api.OK || is != 0 || !r.Optimal || r.Nodes > 25 {
				t.Errorf("%s: %d, %d: %+v", what, e, is, r)
			}
		}
	}
}

// renumber gives the blocks rising Seqs, and their parents the same.
func renumber(l []api.Block) {
	for i, b := range l {
		l[i].Seq = i + 1
		if b.Parent > 0 {
			l[i].Parent = len(l) + 1 - b.Parent
		}
	}
}

// Of a group two would pay.
func TestP181Groups(t *testing.T) {
	group := func(n int, bs ...api.Block) day {
		for i := range bs {
			bs[i].Group = n
		}
		return example(bs...)
	}
	blocks := func() []api.Block {
		return []api.Block{gives("c", 1, 0, 15, 2), gives("c", 2, 0, 10, 3), gives("c", 3, 0, 5, 1)}
	}
	wantDay(t, "no group", group(0, blocks()...), "235", "xxx")
	wantDay(t, "below 0 is none", group(-1, blocks()...), "235", "xxx")
	wantDay(t, "of one group", group(1, blocks()...), "210", ".x.")
	wantDay(t, "two of a group", example(gives("c", 1, 0, 15, 2), ofGroup(7, gives("c", 2, 0, 10, 3)), ofGroup(7, gives("c", 3, 0, 5, 1))), "220", "xx.")
	wantDay(t, "of two groups", example(ofGroup(2, gives("c", 1, 0, 15, 2)), ofGroup(7, gives("c", 2, 0, 10, 3)), ofGroup(2, gives("c", 3, 0, 5, 1))), "225", ".xx")
	wantDay(t, "of two participants", example(ofGroup(7, gives("c", 1, 0, 15, 2)), ofGroup(7, gives("d", 1, 0, 10, 3))), "220", "xx")
	wantDay(t, "alike", group(7, gives("c", 1, 0, 15, 2), gives("c", 2, 0, 15, 2)), "190", "x.", ".x")
	for _, groups := range [][]int{{1, 2}, {2, 1}, {1, 0}, {0, 1}, {2, -1}, {-1, 2}} {
		d := twoHours(ofGroup(groups[0], gives("c", 1, 0, 24, 2, 2)), ofGroup(groups[1], gives("c", 2, 0, 23, 2, 2)))
		wantDay(t, fmt.Sprint("groups ", groups), d, "312", "xx")
	}
	// The one that is worth more is nobody's match.
	wantDay(t, "the better one may not be", group(7, gives("c", 1, 0, 15, 2), gives("c", 2, 0, 0, 7)), "190", "x.")
	// A child of the same group has no parent ever.
	wantDay(t, "a child of the group", example(ofGroup(7, gives("c", 1, 0, 15, 2)), ofGroup(7, below(1, gives("c", 2, 0, 10, 3)))), "190", "x.")
	// The child of the one keeps it from losing to the other.
	wantDay(t, "with a child", example(ofGroup(7, gives("c", 1, 0, 15, 2)), ofGroup(7, gives("c", 2, 0, 14, 2)), below(1, gives("c", 3, 0, 10, 3))), "220", "x.x")
}

// Lines that carry nothing, some and all of what they may.
func TestP181Lines(t *testing.T) {
	for _, capacity := range []int{0, 1, 3, 4, 5, 6, 9, 10, 1000} {
		for _, ends := range [][2]int{{0, 1}, {1, 0}} {
			d := day{gridOf(2, 1, line(ends[0], ends[1], capacity)), []api.Step{sells("a", 1, 0, 10, 20), buys("b", 1, 1, 6, 50)}, nil}
			what, welfare := fmt.Sprint("a line of ", capacity), fmt.Sprint(30*min(capacity, 6))
			wantDay(t, what, d, welfare, "")
			// While b has not all it is as dear as 50 there.
			d.blocks = []api.Block{takes("c", 1, 1, 35, 4)}
			if capacity < 10 {
				wantDay(t, what, d, welfare, ".")
			} else {
				wantDay(t, what, d, "240", "x")
			}
			// Where a is, it takes what a still has.
			d.blocks[0].Zone = 0
			wantDay(t, what, d, fmt.Sprint(30*min(capacity, 6)+60), "x")
		}
	}
	// Round three zones: by way of the second one comes what the line to the
	// third one does not carry.
	for capacity, welfare := range map[int]string{0: "90", 2: "150", 3: "180", 7: "180"} {
		d := day{gridOf(3, 1, line(0, 2, 3), line(0, 1, capacity), line(2, 1, 100)), []api.Step{sells("a", 1, 0, 10, 20), buys("b", 1, 2, 6, 50)}, nil}
		wantDay(t, "three zones", d, welfare, "")
		d.blocks = []api.Block{takes("c", 1, 1, 40, 4)}
		if capacity == 7 {
			wantDay(t, "three zones, and a block", d, "260", "x")
		} else {
			wantDay(t, "three zones, and a block", d, welfare, ".")
		}
	}
}

// Two zones, two hours, a line that is full in the first hour, and one that
// carries nothing.
func TestP181ZonesAndHours(t *testing.T) {
	d := day{
		gridOf(2, 2, line(0, 1, 5), line(1, 0, 0)),
		[]api.Step{
			sells("a", 1, 0, 10, 20), inHour(1, sells("a", 2, 0, 10, 30)),
			buys("b", 1, 1, 8, 50), inHour(1, buys("b", 2, 1, 6, 60)),
		},
		[]api.Block{gives("c", 1, 1, 38, 2, 3), takes("c", 2, 0, 25, 1, 0), takes("c", 3, 0, 10, 1, 1)},
	}
	wantDay(t, "it just does not lose", d, "335", "xx.")
	d.blocks[0].Price = 39
	wantDay(t, "it loses", d, "305", ".x.")
	d.blocks[1].Zone = 1
	wantDay(t, "in the other zone it is dearer", d, "300", "...")
	d.g.Lines[0].Cap = 1000
	wantDay(t, "a line for all", d, "425", ".x.")
}

// Who gives may pay for it.
func TestP181PricesBelow0(t *testing.T) {
	d := day{gridOf(1, 1), []api.Step{sells("a", 1, 0, 10, -50), buys("b", 1, 0, 4, -20)}, nil}
	wantDay(t, "no block", d, "120", "")
	for _, c := range []struct {
		block           api.Block
		welfare, accept string
	}{
		{takes("c", 1, 0, -40, 6), "180", "x"},
		{takes("c", 1, 0, -40, 7), "120", "."},
		{takes("c", 1, 0, -20, 7), "300", "x"},
		{takes("c", 1, 0, -51, 1), "120", "."},
		{gives("c", 1, 0, -60, 4), "160", "x"},
		{gives("c", 1, 0, -500, 4), "1920", "x"},
		{gives("c", 1, 0, -500, 5), "120", "."},
		{gives("c", 1, 0, -49, 1), "120", "."},
		{takes("c", 1, 0, 3000, 10), "30500", "x"},
		{takes("c", 1, 0, 3000, 11), "120", "."},
	} {
		d.blocks = []api.Block{c.block}
		wantDay(t, fmt.Sprintf("%+v", c.block), d, c.welfare, c.accept)
	}
	// All prices are below 0, or one alone.
	d.g.Low, d.g.High = -60, -10
	d.blocks = []api.Block{gives("c", 1, 0, -60, 2)}
	wantDay(t, "all below 0", d, "140", "x")
	d = day{api.Grid{Zones: 1, Hours: 1, Low: -7, High: -7}, []api.Step{sells("a", 1, 0, 10, -7), buys("b", 1, 0, 4, -7)}, []api.Block{takes("c", 1, 0, -7, 3), gives("c", 2, 0, -7, 3)}}
	wantDay(t, "one price", d, "0", "..", "x.", ".x", "xx")
}
