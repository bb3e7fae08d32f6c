package clear_test

import (
	"fmt"
	"reflect"
	"slices"
	"testing"
	"time"

	"noonbell/api"
	"noonbell/clear"
	"noonbell/result"
)

// rich has two zones, two hours, a line that is full in the first of them, one
// that can carry nothing, and blocks of which the first just does not lose.
func rich() day {
	return day{
		gridOf(2, 2, line(0, 1, 5), line(1, 0, 0)),
		[]api.Step{
			sells("a", 1, 0, 10, 20), inHour(1, sells("a", 2, 0, 10, 30)),
			buys("b", 1, 1, 8, 50), inHour(1, buys("b", 2, 1, 6, 60)),
		},
		[]api.Block{gives("c", 1, 1, 38, 2, 3), takes("c", 2, 0, 25, 1, 0), takes("c", 3, 0, 10, 1, 1)},
	}
}

// wrongs are what orders may not be.
func wrongs() map[string]func(d *day) {
	return map[string]func(d *day){
		"no grid":              func(d *day) { d.g = api.Grid{} },
		"no zone":              func(d *day) { d.g.Zones = 0 },
		"no hour":              func(d *day) { d.g.Hours = 0 },
		"no price":             func(d *day) { d.g.Low = 3001 },
		"a price of a grid":    func(d *day) { d.g.High = 100001 },
		"a price far below":    func(d *day) { d.g.Low = -100001 },
		"too many zones":       func(d *day) { d.g.Zones = 4 },
		"too many hours":       func(d *day) { d.g.Hours = 4 },
		"far too many zones":   func(d *day) { d.g.Zones = greatest },
		"far too many hours":   func(d *day) { d.g.Hours = greatest },
		"too many lines":       func(d *day) { d.g.Lines = slices.Repeat(d.g.Lines, 2) },
		"a line":               func(d *day) { d.g.Lines[1].From = 2 },
		"a line to itself":     func(d *day) { d.g.Lines[1].To = 1 },
		"a line's Cap":         func(d *day) { d.g.Lines[0].Cap = 1001 },
		"a line's Cap below":   func(d *day) { d.g.Lines[0].Cap = -1 },
		"a zone":               func(d *day) { d.steps[0].Zone = 2 },
		"a zone below":         func(d *day) { d.steps[3].Zone = -1 },
		"an hour":              func(d *day) { d.steps[0].Hour = 2 },
		"an hour below":        func(d *day) { d.steps[0].Hour = -1 },
		"a step of nothing":    func(d *day) { d.steps[3].Qty = 0 },
		"a step of less":       func(d *day) { d.steps[3].Qty = -1 },
		"a step of too much":   func(d *day) { d.steps[3].Qty = 1001 },
		"a step's price":       func(d *day) { d.steps[3].Price = 3001 },
		"a price below":        func(d *day) { d.steps[3].Price = -501 },
		"steps that fall":      func(d *day) { d.steps[2].Seq = 3 },
		"steps twice":          func(d *day) { d.steps[2].Seq = 2 },
		"names that fall":      func(d *day) { d.steps[0].Who = "c" },
		"a block's zone":       func(d *day) { d.blocks[2].Zone = 2 },
		"a block's zone below": func(d *day) { d.blocks[2].Zone = -1 },
		"a block's hours":      func(d *day) { d.blocks[2].Qty = []int{1} },
		"no hours":             func(d *day) { d.blocks[2].Qty = nil },
		"one hour more":        func(d *day) { d.blocks[2].Qty = []int{1, 1, 0} },
		"a block of nothing":   func(d *day) { d.blocks[2].Qty = []int{0, 0} },
		"a block of less":      func(d *day) { d.blocks[2].Qty = []int{-1, 1} },
		"a block of too much":  func(d *day) { d.blocks[2].Qty = []int{0, 1001} },
		"a block's price":      func(d *day) { d.blocks[2].Price = -501 },
		"a block's price high": func(d *day) { d.blocks[2].Price = 3001 },
		"blocks that fall":     func(d *day) { d.blocks[2].Who = "b" },
		"blocks twice":         func(d *day) { d.blocks[2].Seq = 2 },
		"no parent":            func(d *day) { d.blocks[2].Parent = 4 },
		"another one's parent": func(d *day) { d.blocks[2].Who, d.blocks[2].Parent = "d", 1 },
		"its own parent":       func(d *day) { d.blocks[2].Parent = 3 },
		"parents in a ring":    func(d *day) { d.blocks[0].Parent, d.blocks[1].Parent, d.blocks[2].Parent = 3, 1, 2 },
		"too many steps": func(d *day) {
			for i := range 29 {
				d.steps = append(d.steps, buys("c", i, 1, 1, -500))
			}
		},
		"too many blocks": func(d *day) {
			for i := range 10 {
				d.blocks = append(d.blocks, gives("d", i, 0, 0, 1, 0))
			}
		},
	}
}

func TestP181Orders(t *testing.T) {
	for what, change := range wrongs() {
		d := rich().with(change)
		for _, n := range []int{1, 16, greatest, 0, -1, least} {
			wantErr(t, what, d, n)
		}
	}
	if r := cleared(t, "rich", rich(), members(t, rich()), 16); r.Welfare != "335" {
		t.Errorf("%+v", r)
	}
}

func TestP181N(t *testing.T) {
	for _, d := range []day{rich(), example(), {g: gridOf(1, 1)}} {
		for _, n := range []int{0, -1, -2, -16, -1 << 32, least + 1, least} {
			wantErr(t, "nodes", d, n)
		}
		l := members(t, d)
		for _, n := range []int{1, 2, 1 << 32, greatest} {
			cleared(t, "nodes", d, l, n)
		}
	}
}

// Whatever stands where, each call ends.
func TestR1WhateverIsHandedIn(t *testing.T) {
	for _, n := range []int{least, least + 1, -1 << 32, -1, 0, 1, 1 << 32, greatest - 1, greatest} {
		g := api.Grid{Zones: n, Hours: n, Lines: []api.Line{line(n, n, n)}, Low: n, High: n}
		steps := []api.Step{{Who: "a", Seq: n, Zone: n, Hour: n, Qty: n, Price: n}}
		blocks := []api.Block{{Who: "a", Seq: n, Zone: n, Price: n, Qty: []int{n}, Parent: n, Group: n}}
		for _, at := range []api.Grid{g, gridOf(1, 1), {}} {
			for _, nodes := range []int{n, 1, 4} {
				wantErr(t, fmt.Sprint(n), day{at, steps, blocks}, nodes)
			}
		}
	}
	wantErr(t, "nothing", day{}, 1)
	// Seqs and groups may be any numbers, and names any texts.
	d := example(ofGroup(least, gives("", least, 0, 15, 1)), ofGroup(greatest, gives("", greatest, 0, 15, 1)), ofGroup(greatest, gives("\xff\x00", 0, 0, 15, 1)))
	d.steps[0].Who, d.steps[0].Seq = "", least
	wantDay(t, "odd names", d, "195", "xxx")
}

// crowd has as many orders as there may be; all that sell ask for much the
// same, and all that buy, so that it does not soon tell what is best.
func crowd(hours int) day {
	d := day{g: gridOf(3, hours, line(0, 1, 40), line(1, 2, 40), line(2, 0, 40))}
	for i := range 32 {
		price := 1000 + i*37%32*30
		d.steps = append(d.steps, api.Step{Who: "a", Seq: i + 1, Zone: i % 3, Hour: i / 3 % hours, Buy: i%2 == 0, Qty: 50 + i*23%100, Price: price})
	}
	for i := range 12 {
		b := api.Block{Who: "b", Seq: i + 1, Zone: i % 3, Buy: i%4 < 2, Price: 1400 + i*29%60}
		for hour := range hours {
			b.Qty = append(b.Qty, 20+(i*17+hour*11)%30)
		}
		d.blocks = append(d.blocks, b)
	}
	return d
}

func TestR1Ends(t *testing.T) {
	since := time.Now()
	for hours, nodes := range [][]int{1: {1, 2, 8192}, 2: {1, 20, 8192}, 3: {1, 20, 200}} {
		if hours == 0 {
			continue
		}
		d := crowd(hours)
		for _, n := range nodes {
			r, e := clear.Clear(d.g, d.steps, d.blocks, n)
			if is := result.Check(d.g, d.steps, d.blocks, r); e != api.OK || is != 0 || r.Nodes > n || n == d.nodes() && !r.Optimal {
				t.Errorf("%d hours, %d nodes: %d, %d, %+v", hours, n, e, is, r)
			}
		}
	}
	if took := time.Since(since); took > time.Minute {
		t.Errorf("it took %v", took)
	}
}

func withRoom[E any](l []E, more ...E) []E {
	return append(slices.Clone(l), more...)[:len(l)]
}

// roomy has spare room behind all its lists, and in it what would not do.
func roomy() day {
	d := rich()
	d.g.Lines = withRoom(d.g.Lines, line(0, 1, 1000), line(9, 9, 9))
	d.steps = withRoom(d.steps, sells("a", 1, 9, 9, 9), sells("z", 1, 0, 9, 9), sells("z", 2, 0, 9, 9), sells("z", 3, 0, 9, 9))
	d.blocks = withRoom(d.blocks, gives("a", 1, 9, 9, 9), takes("z", 1, 0, 9, 9))
	for i, b := range d.blocks {
		d.blocks[i].Qty = withRoom(b.Qty, 99, 98)
	}
	return d
}

// whole is all that it has, with what stands in the room.
func (d day) whole() day {
	d.g.Lines, d.steps, d.blocks = d.g.Lines[:cap(d.g.Lines)], d.steps[:cap(d.steps)], d.blocks[:cap(d.blocks)]
	blocks := d.blocks
	d = d.copied()
	for i, b := range blocks {
		d.blocks[i].Qty = slices.Clone(b.Qty[:cap(b.Qty)])
	}
	return d
}

func wipe[E any](l []E) {
	for i := range l[:cap(l)] {
		l[:cap(l)][i] = *new(E)
	}
}

// spoil writes over all that was handed in, with the room.
func (d day) spoil() {
	for _, b := range d.blocks[:cap(d.blocks)] {
		wipe(b.Qty)
	}
	wipe(d.g.Lines)
	wipe(d.steps)
	wipe(d.blocks)
}

func TestR3WhatIsHandedInStays(t *testing.T) {
	for what, change := range map[string]func(d *day){
		"a result":  func(d *day) {},
		"another":   func(d *day) { d.blocks[0].Price = 39 },
		"a family":  func(d *day) { d.blocks[0].Parent, d.blocks[1].Group, d.blocks[2].Group = 2, 5, 5 },
		"no orders": func(d *day) { d.steps[1].Seq = 0 },
	} {
		for _, n := range []int{1, 3, 16} {
			d := roomy()
			change(&d)
			was := d.whole()
			r, e := clear.Clear(d.g, d.steps, d.blocks, n)
			if got := d.whole(); !reflect.DeepEqual(got, was) {
				t.Errorf("%s: what was handed in: %+v, not %+v", what, got, was)
			}
			if (e == api.OK) == (what == "no orders") {
				t.Errorf("%s: %d", what, e)
			}
			// Nor is it kept: what was answered stays, and is answered again.
			d.spoil()
			again := roomy()
			change(&again)
			q, f := clear.Clear(again.g, again.steps, again.blocks, n)
			if f != e || !reflect.DeepEqual(q, r) {
				t.Errorf("%s: %+v, %d, then %+v, %d", what, r, e, q, f)
			}
		}
	}
}

// lists are all the lists of numbers of it.
func lists(r api.Result) [][]string {
	return slices.Concat([][]string{r.X}, r.F, r.P)
}

// No two lists of an answer share memory, nor two answers, nor an answer and
// what was handed in.
func TestR3NewMemory(t *testing.T) {
	for _, d := range []day{rich(), rich().with(func(d *day) { d.g.Lines = nil }), example(), crowd(3)} {
		was := d.whole()
		first, _ := clear.Clear(d.g, d.steps, d.blocks, 20)
		wanted, _ := clear.Clear(d.g, d.steps, d.blocks, 20)
		for i := range lists(wanted) {
			r, e := clear.Clear(d.g, d.steps, d.blocks, 20)
			if e != api.OK || !reflect.DeepEqual(r, wanted) {
				t.Fatalf("%+v, not %+v", r, wanted)
			}
			l := lists(r)
			for j := range l[i][:cap(l[i])] {
				l[i][:cap(l[i])][j] = "gone"
			}
			for j := range l {
				if j != i && !slices.Equal(l[j], lists(wanted)[j]) {
					t.Errorf("list %d shares memory with %d: %q", j, i, l[j])
				}
			}
			wipe(r.F)
			if !reflect.DeepEqual(r.P[:0], wanted.P[:0]) || len(r.P) > 0 && r.P[0] == nil {
				t.Errorf("P shares memory with F: %v", r.P)
			}
			wipe(r.P)
			wipe(r.Accept)
		}
		if !reflect.DeepEqual(first, wanted) {
			t.Errorf("%+v, not %+v", first, wanted)
		}
		if got := d.whole(); !reflect.DeepEqual(got, was) {
			t.Errorf("behind an answer: %+v, not %+v", got, was)
		}
	}
}

func TestR5OneAnswer(t *testing.T) {
	l := days(6, 60, size{zones: 3, hours: 3, steps: 12, blocks: 5})
	type answer struct {
		r api.Result
		e api.Errno
	}
	ask := func(i int, d day) (a answer) {
		a.r, a.e = clear.Clear(d.g, d.steps, d.blocks, i%7)
		return a
	}
	var first []answer
	for i, d := range l {
		first = append(first, ask(i, d))
	}
	for i, d := range slices.Backward(l) {
		// With another call between, too.
		for range 2 {
			if again := ask(i, d.copied()); !reflect.DeepEqual(again, first[i]) {
				t.Errorf("%+v: %+v, then %+v", d, first[i], again)
			}
		}
	}
}

// What is not accepted hangs on nothing but the orders: that participants have
// other names, in the same order, changes nothing else.
func TestW5NamesDoNotTell(t *testing.T) {
	for _, d := range days(7, 60, size{zones: 3, hours: 3, steps: 9, blocks: 4}) {
		e := d.with(func(d *day) {
			for i, s := range d.steps {
				d.steps[i].Who = "n" + s.Who
			}
			for i, b := range d.blocks {
				d.blocks[i].Who = "n" + b.Who
			}
		})
		for n := range 6 {
			r, _ := clear.Clear(d.g, d.steps, d.blocks, n+1)
			if q, _ := clear.Clear(e.g, e.steps, e.blocks, n+1); !reflect.DeepEqual(q, r) {
				t.Errorf("%+v: %+v, not %+v", d, q, r)
			}
		}
	}
}
