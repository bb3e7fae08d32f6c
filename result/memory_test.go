package result_test

import (
	"reflect"
	"slices"
	"testing"

	"noonbell/api"
	"noonbell/result"
)

// roomy has spare room behind all its lists, and in it what would not do.
func roomy() published {
	c := rich()
	c.g.Lines = withRoom(c.g.Lines, line(0, 1, 1000), line(9, 9, 9))
	c.steps = withRoom(c.steps, sells("a", 1, 9, 9, 9), sells("z", 1, 0, 9, 9))
	c.blocks = withRoom(c.blocks, gives("a", 1, 9, 9, 9), takes("z", 1, 0, 9, 9))
	for i, b := range c.blocks {
		c.blocks[i].Qty = withRoom(b.Qty, 99, 98)
	}
	c.r.Accept = withRoom(c.r.Accept, true, true)
	c.r.X = withRoom(c.r.X, "99", "x")
	for _, t := range []*[][]string{&c.r.F, &c.r.P} {
		for i, l := range *t {
			(*t)[i] = withRoom(l, "99", "x")
		}
		*t = withRoom(*t, []string{"99"}, nil)
	}
	return c
}

func withRoom[E any](l []E, more ...E) []E {
	return append(slices.Clone(l), more...)[:len(l)]
}

// whole is all that it has, with what stands in the room.
func (c published) whole() published {
	c.g.Lines, c.steps, c.blocks = c.g.Lines[:cap(c.g.Lines)], c.steps[:cap(c.steps)], c.blocks[:cap(c.blocks)]
	c.r.Accept, c.r.X = c.r.Accept[:cap(c.r.Accept)], c.r.X[:cap(c.r.X)]
	c.r.F, c.r.P = c.r.F[:cap(c.r.F)], c.r.P[:cap(c.r.P)]
	c = c.copied()
	for i, b := range c.blocks {
		c.blocks[i].Qty = b.Qty[:cap(b.Qty)]
	}
	return c
}

// ask asks all calls of it.
func (c published) ask() (answers []any) {
	answers = []any{c.check(), result.Orders(c.g, c.steps, c.blocks), result.Linked(c.blocks, c.r.Accept)}
	for _, b := range c.blocks {
		text, e := result.Surplus(b, c.r.P)
		answers = append(answers, text, e)
	}
	return answers
}

func TestR3WhatIsHandedInStays(t *testing.T) {
	l := breaks()
	for number := range 11 {
		c := roomy()
		for _, change := range l[number] {
			change(&c)
		}
		was := c.whole()
		first := c.ask()
		if first[0] != number {
			t.Errorf("%d: %d", number, first[0])
		}
		if got := c.whole(); !reflect.DeepEqual(got, was) {
			t.Errorf("what was handed in: %+v, not %+v", got, was)
		}
		// Nor is it kept.
		c.steps[0], c.blocks[0], c.r.X[0], c.r.P[0][0] = api.Step{}, api.Block{}, "x", "x"
		if again := was.narrow(roomy()).ask(); !reflect.DeepEqual(again, first) {
			t.Errorf("%v, then %v", first, again)
		}
	}
}

// narrow is as long as the other one in all its lists.
func (c published) narrow(other published) published {
	c = c.copied()
	c.g.Lines, c.steps, c.blocks = c.g.Lines[:len(other.g.Lines)], c.steps[:len(other.steps)], c.blocks[:len(other.blocks)]
	c.r.Accept, c.r.X = c.r.Accept[:len(other.r.Accept)], c.r.X[:len(other.r.X)]
	c.r.F, c.r.P = c.r.F[:len(other.r.F)], c.r.P[:len(other.r.P)]
	for hour := range c.r.F {
		c.r.F[hour], c.r.P[hour] = c.r.F[hour][:len(other.r.F[hour])], c.r.P[hour][:len(other.r.P[hour])]
	}
	for i, b := range other.blocks {
		c.blocks[i].Qty = c.blocks[i].Qty[:len(b.Qty)]
	}
	return c
}

func TestR5OneAnswer(t *testing.T) {
	l := results(5, 60)
	for i := range l {
		l[i] = draw(uint64(i)).spoilt(l[i])
	}
	var first [][]any
	for _, c := range l {
		first = append(first, c.ask())
	}
	for i, c := range slices.Backward(l) {
		if again := c.ask(); !reflect.DeepEqual(again, first[i]) {
			t.Errorf("%+v: %v, then %v", c, first[i], again)
		}
	}
}

// Whatever stands where, each call ends, and of what no orders may be Check
// tells the first.
func TestR1WhateverIsHandedIn(t *testing.T) {
	for _, n := range []int{least, least + 1, -1 << 32, -1, 0, 1, 1 << 32, greatest - 1, greatest} {
		g := api.Grid{Zones: n, Hours: n, Lines: []api.Line{line(n, n, n)}, Low: n, High: n}
		steps := []api.Step{{Who: "a", Seq: n, Zone: n, Hour: n, Qty: n, Price: n}}
		blocks := []api.Block{{Who: "a", Seq: n, Zone: n, Price: n, Qty: []int{n}, Parent: n, Group: n}}
		r := api.Result{Accept: marks("x"), X: words("0"), F: table("0"), P: table("0"), Welfare: "0", Upper: "0", Nodes: n}
		for _, grid := range []api.Grid{g, gridOf(1, 1), {}} {
			if result.Orders(grid, steps, blocks) {
				t.Errorf("%+v, %+v, %+v", grid, steps, blocks)
			}
			if number := result.Check(grid, steps, blocks, r); number != 1 {
				t.Errorf("%+v, %+v, %+v: %d", grid, steps, blocks, number)
			}
		}
		if !result.Linked(blocks, marks("x")) {
			t.Errorf("its own parent: %d", n)
		}
		wantSurplus(t, api.Block{Zone: n, Qty: []int{1}}, nil, "", api.ErrShape)
	}
	if result.Check(api.Grid{}, nil, nil, api.Result{}) != 1 || result.Orders(api.Grid{}, nil, nil) || !result.Linked(nil, nil) {
		t.Error("of nothing")
	}
	wantSurplus(t, api.Block{}, nil, "0", api.OK)
}
