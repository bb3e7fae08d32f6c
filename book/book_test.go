package book_test

import (
	"math"
	"reflect"
	"slices"
	"strconv"
	"strings"
	"testing"

	"noonbell/api"
	"noonbell/book"
	"noonbell/order"
)

const billion = 1000000000

func lock(cents int) order.Ask { return order.Ask{Kind: order.Lock, Cents: cents} }

func cancel(seq int) order.Ask { return order.Ask{Kind: order.Cancel, Seq: seq} }

// buys is a step that owes so many cents.
func buys(seq, cents int) order.Ask {
	return order.Ask{Kind: order.Step, Step: api.Step{Seq: seq, Buy: true, Qty: 1, Price: cents}}
}

// step is one that owes nothing.
func step(seq int) order.Ask { return buys(seq, 0) }

// block is one that owes nothing.
func block(seq, parent int) order.Ask {
	return order.Ask{Kind: order.Block, Block: api.Block{Seq: seq, Price: 1, Qty: []int{1, 2}, Parent: parent}}
}

// buysBlock is a block that owes so many cents.
func buysBlock(seq, cents int) order.Ask {
	return order.Ask{Kind: order.Block, Block: api.Block{Seq: seq, Buy: true, Price: cents, Qty: []int{0, 1, 0}}}
}

// one is what a book tells of a participant.
type one struct{ locked, owes, asks int }

func toldOf(b *book.Book, who string) one {
	return one{b.Locked(who), b.Owes(who), b.Asks(who)}
}

// told is all that a book tells.
type told struct {
	who    []string
	steps  []api.Step
	blocks []api.Block
	of     map[string]one
}

// tellOf asks of those that the book names, and of these others.
func tellOf(b *book.Book, others ...string) told {
	x := told{who: b.Who(), steps: b.Steps(), blocks: b.Blocks(), of: map[string]one{}}
	for _, who := range slices.Concat(x.who, others) {
		x.of[who] = toldOf(b, who)
	}
	return x
}

// wantAdd holds that May and Add answer so, and that neither May nor what is
// refused changes anything that is told.
func wantAdd(t *testing.T, b *book.Book, who string, a order.Ask, want api.Errno) {
	t.Helper()
	was := tellOf(b, who)
	for range 2 {
		if got := b.May(who, a); got != want {
			t.Errorf("May of %q, %+v: error %d, not %d", who, a, got, want)
		}
	}
	if is := tellOf(b, who); !reflect.DeepEqual(is, was) {
		t.Errorf("behind May of %q, %+v: %+v, not %+v", who, a, is, was)
	}
	if got := b.Add(who, a); got != want {
		t.Errorf("Add of %q, %+v: error %d, not %d", who, a, got, want)
	}
	if is := tellOf(b, who); want != api.OK && !reflect.DeepEqual(is, was) {
		t.Errorf("behind Add of %q, %+v, which is refused: %+v, not %+v", who, a, is, was)
	}
}

func addAll(t *testing.T, b *book.Book, who string, l ...order.Ask) {
	t.Helper()
	for _, a := range l {
		wantAdd(t, b, who, a, api.OK)
	}
}

func wantOne(t *testing.T, b *book.Book, who string, want one) {
	t.Helper()
	if got := toldOf(b, who); got != want {
		t.Errorf("of %q: %+v, not %+v", who, got, want)
	}
}

// names are the orders of a list, as Who and Seq.
func names(b *book.Book) (steps, blocks string) {
	var s, k []string
	for _, x := range b.Steps() {
		s = append(s, x.Who+strconv.Itoa(x.Seq))
	}
	for _, x := range b.Blocks() {
		k = append(k, x.Who+strconv.Itoa(x.Seq))
	}
	return strings.Join(s, " "), strings.Join(k, " ")
}

func wantNames(t *testing.T, b *book.Book, steps, blocks string) {
	t.Helper()
	if s, k := names(b); s != steps || k != blocks {
		t.Errorf("steps %q, blocks %q, not %q, %q", s, k, steps, blocks)
	}
}

func TestP101Examples(t *testing.T) {
	b := book.New()
	a := order.Ask{Kind: order.Step, Step: api.Step{Seq: 1, Buy: true, Qty: 10, Price: 50}}
	wantAdd(t, b, "a", a, api.ErrCollateral)
	wantAdd(t, b, "a", lock(500), api.OK)
	wantAdd(t, b, "a", a, api.OK)
	wantOne(t, b, "a", one{500, 500, 2})
	wantAdd(t, b, "a", a, api.ErrTwice)
	wantAdd(t, b, "a", cancel(1), api.OK)
	wantAdd(t, b, "a", a, api.ErrTwice)
	wantOne(t, b, "a", one{500, 0, 3})
}

// whole is an ask whose every part is right, of no kind.
func whole() order.Ask {
	return order.Ask{Cents: 5, Seq: 1, Step: step(2).Step, Block: block(3, 0).Block}
}

func TestP101Kind(t *testing.T) {
	b := book.New()
	addAll(t, b, "a", step(1))
	for _, kind := range []int{0, 5, -1, 6, 7, 8, 100, -4, math.MaxInt, math.MinInt} {
		a := whole()
		a.Kind = kind
		wantAdd(t, b, "a", a, api.ErrArg)
		wantAdd(t, b, "nobody", a, api.ErrArg)
		wantAdd(t, b, "a", order.Ask{Kind: kind}, api.ErrArg)
	}
	wantOne(t, b, "a", one{0, 0, 1})
}

// Only what is of an ask's kind counts.
func TestP101WhatIsOfAnotherKind(t *testing.T) {
	for kind, want := range map[int]struct {
		steps, blocks string
		one
	}{
		order.Lock:   {"a1", "", one{105, 0, 3}},
		order.Step:   {"a1 a2", "", one{100, 0, 3}},
		order.Block:  {"a1", "a3", one{100, 0, 3}},
		order.Cancel: {"", "", one{100, 0, 3}},
	} {
		b, a := book.New(), whole()
		a.Kind = kind
		addAll(t, b, "a", lock(100), step(1), a)
		wantNames(t, b, want.steps, want.blocks)
		wantOne(t, b, "a", want.one)
	}
	// What would be refused in an ask of another kind.
	bad := order.Ask{
		Cents: -5, Seq: 77,
		Step:  api.Step{Seq: 1, Buy: true, Qty: 1000, Price: 1000},
		Block: api.Block{Seq: 1, Buy: true, Price: 1000, Qty: []int{1000}, Parent: 55},
	}
	for kind, right := range map[int]order.Ask{order.Lock: lock(1), order.Step: step(2), order.Block: block(2, 0), order.Cancel: cancel(1)} {
		b, a := book.New(), bad
		addAll(t, b, "a", step(1))
		switch a.Kind = kind; kind {
		case order.Lock:
			a.Cents = right.Cents
		case order.Step:
			a.Step = right.Step
		case order.Block:
			a.Block = right.Block
		case order.Cancel:
			a.Seq = right.Seq
		}
		wantAdd(t, b, "a", a, api.OK)
		wantAdd(t, b, "a", cancel(77), api.ErrNone)
		wantAdd(t, b, "a", cancel(55), api.ErrNone)
	}
}

func TestP101Cents(t *testing.T) {
	b := book.New()
	for _, cents := range []int{0, -1, billion + 1, -billion, 2 * billion, math.MaxInt, math.MinInt} {
		wantAdd(t, b, "a", lock(cents), api.ErrArg)
	}
	wantOne(t, b, "a", one{})
	locked := 0
	for i, cents := range []int{1, billion, 2, billion - 1, billion, 500} {
		addAll(t, b, "a", lock(cents))
		locked += cents
		wantOne(t, b, "a", one{locked, 0, i + 1})
		wantAdd(t, b, "a", lock(0), api.ErrArg)
		wantAdd(t, b, "a", lock(billion+1), api.ErrArg)
	}
}

func TestP101TheMostThatIsLocked(t *testing.T) {
	b := book.New()
	for range api.MaxAsks {
		addAll(t, b, "a", lock(billion))
	}
	wantOne(t, b, "a", one{24 * billion, 0, 24})
}

// fullOf is a book where a has had all of its Adds, the last of them of the
// kind: of a lives step 1, and 23 and 24 were never.
func fullOf(t *testing.T, last order.Ask) *book.Book {
	t.Helper()
	b := book.New()
	addAll(t, b, "a", step(1), step(2))
	for range api.MaxAsks - 3 {
		addAll(t, b, "a", lock(1))
	}
	addAll(t, b, "a", last)
	return b
}

func TestP101MaxAsks(t *testing.T) {
	for _, last := range []order.Ask{lock(1), step(3), block(3, 0), cancel(2)} {
		b := fullOf(t, last)
		was := tellOf(b, "a")
		if was.of["a"].asks != 24 {
			t.Errorf("%d Adds were OK", was.of["a"].asks)
		}
		// Right ones, and such as have other errors as well.
		for _, a := range []order.Ask{
			lock(1), step(23), block(23, 0), cancel(1),
			lock(0), lock(billion + 1), step(1), step(2), block(1, 0), block(24, 99), block(24, 1), buys(24, 100000), cancel(99), cancel(23),
		} {
			wantAdd(t, b, "a", a, api.ErrQuota)
		}
		for _, kind := range []int{0, 5, -1} {
			wantAdd(t, b, "a", order.Ask{Kind: kind}, api.ErrArg)
		}
		if is := tellOf(b, "a"); !reflect.DeepEqual(is, was) {
			t.Errorf("%+v, not %+v", is, was)
		}
		addAll(t, b, "b", lock(1), step(1), block(23, 0), cancel(1))
	}
}

// What is refused, and what is asked of May, is not one of the MaxAsks.
func TestP101WhatDoesNotCount(t *testing.T) {
	b := book.New()
	for i := range api.MaxAsks {
		wantAdd(t, b, "a", lock(0), api.ErrArg)
		wantAdd(t, b, "a", order.Ask{}, api.ErrArg)
		wantAdd(t, b, "a", cancel(9), api.ErrNone)
		wantAdd(t, b, "a", block(9, 8), api.ErrParent)
		wantAdd(t, b, "a", buys(9, 30), api.ErrCollateral)
		for range 30 {
			if e := b.May("a", lock(5)); e != api.OK {
				t.Fatalf("May: error %d behind %d Adds", e, i)
			}
		}
		addAll(t, b, "a", lock(1))
		wantOne(t, b, "a", one{i + 1, 0, i + 1})
	}
	wantAdd(t, b, "a", lock(1), api.ErrQuota)
	wantNames(t, b, "", "")
}

// An order and its cancel are two Adds.
func TestP101MaxAsksOfOrdersAndCancels(t *testing.T) {
	b := book.New()
	for i := range api.MaxAsks / 2 {
		addAll(t, b, "a", step(i), cancel(i))
	}
	wantAdd(t, b, "a", step(100), api.ErrQuota)
	wantAdd(t, b, "a", cancel(1), api.ErrQuota)
	wantOne(t, b, "a", one{0, 0, 24})
	wantNames(t, b, "", "")
}

func TestP101Twice(t *testing.T) {
	b := book.New()
	addAll(t, b, "a", lock(1000), step(1), block(2, 0), step(3), block(4, 0), cancel(3), cancel(4))
	// 1 and 2 live, 3 and 4 were cancelled.
	for seq := 1; seq <= 4; seq++ {
		for _, a := range []order.Ask{step(seq), block(seq, 0), buys(seq, 5), buysBlock(seq, 5), block(seq, 2), block(seq, 99), buys(seq, 100000)} {
			wantAdd(t, b, "a", a, api.ErrTwice)
		}
	}
	wantNames(t, b, "a1", "a2")
	addAll(t, b, "b", step(1), block(2, 0), step(3), block(4, 0))
	addAll(t, b, "", block(1, 0), step(2), block(3, 0), step(4))
	addAll(t, b, "a", step(5), block(6, 0))
	wantNames(t, b, "2 4 a1 a5 b1 b3", "1 3 a2 a6 b2 b4")
}

// A Seq that was refused, or was asked of May or cancelled alone, is free.
func TestP101SeqsThatAreFree(t *testing.T) {
	b := book.New()
	wantAdd(t, b, "a", buys(1, 5), api.ErrCollateral)
	wantAdd(t, b, "a", buysBlock(2, 5), api.ErrCollateral)
	wantAdd(t, b, "a", block(3, 7), api.ErrParent)
	wantAdd(t, b, "a", cancel(4), api.ErrNone)
	b.May("a", step(5))
	addAll(t, b, "b", step(6))
	addAll(t, b, "a", lock(7), step(1), block(2, 0), step(3), step(4), step(5), step(6), step(7))
	wantNames(t, b, "a1 a3 a4 a5 a6 a7 b6", "a2")
}

// What order.Parse would not take is no error here.
func TestP101AnySeq(t *testing.T) {
	b := book.New()
	seqs := []int{math.MinInt, -1000, -1, 0, 1, 1000, 1001, math.MaxInt}
	for _, seq := range seqs {
		addAll(t, b, "a", step(seq))
		wantAdd(t, b, "a", block(seq, 0), api.ErrTwice)
	}
	for i, x := range b.Steps() {
		if x.Seq != seqs[i] {
			t.Errorf("step %d has Seq %d, not %d", i, x.Seq, seqs[i])
		}
	}
	for _, seq := range seqs {
		addAll(t, b, "a", cancel(seq))
		wantAdd(t, b, "a", cancel(seq), api.ErrNone)
		wantAdd(t, b, "a", step(seq), api.ErrTwice)
	}
}

func TestP101MaxSteps(t *testing.T) {
	b := book.New()
	addAll(t, b, "a", block(100, 0), block(101, 0), block(102, 0))
	for seq := range api.MaxSteps {
		addAll(t, b, "a", step(1+seq))
	}
	wantAdd(t, b, "a", step(9), api.ErrQuota)
	wantAdd(t, b, "a", buys(9, 100000), api.ErrQuota)
	wantAdd(t, b, "a", step(8), api.ErrTwice)
	wantAdd(t, b, "a", step(100), api.ErrTwice)
	addAll(t, b, "b", step(9))
	// A block that is cancelled makes no room for a step.
	addAll(t, b, "a", cancel(101))
	wantAdd(t, b, "a", step(9), api.ErrQuota)
	addAll(t, b, "a", cancel(3), step(9))
	wantAdd(t, b, "a", step(10), api.ErrQuota)
	wantAdd(t, b, "a", step(3), api.ErrTwice)
	wantNames(t, b, "a1 a2 a4 a5 a6 a7 a8 a9 b9", "a100 a102")
	addAll(t, b, "a", cancel(1), cancel(2), step(11), step(10))
	wantAdd(t, b, "a", step(12), api.ErrQuota)
	wantNames(t, b, "a4 a5 a6 a7 a8 a9 a10 a11 b9", "a100 a102")
}

func TestP101MaxBlocks(t *testing.T) {
	b := book.New()
	for seq := range api.MaxSteps {
		addAll(t, b, "a", step(101+seq))
	}
	addAll(t, b, "a", block(1, 0), block(2, 1), block(3, 0))
	wantAdd(t, b, "a", block(4, 0), api.ErrQuota)
	wantAdd(t, b, "a", block(4, 99), api.ErrQuota)
	wantAdd(t, b, "a", block(4, 101), api.ErrQuota)
	wantAdd(t, b, "a", buysBlock(4, 100000), api.ErrQuota)
	wantAdd(t, b, "a", block(3, 0), api.ErrTwice)
	wantAdd(t, b, "a", block(103, 0), api.ErrTwice)
	addAll(t, b, "b", block(4, 0))
	// A step that is cancelled makes no room for a block.
	addAll(t, b, "a", cancel(101))
	wantAdd(t, b, "a", block(4, 0), api.ErrQuota)
	addAll(t, b, "a", cancel(2), block(4, 1))
	wantAdd(t, b, "a", block(5, 0), api.ErrQuota)
	wantAdd(t, b, "a", block(2, 0), api.ErrTwice)
	wantNames(t, b, "a102 a103 a104 a105 a106 a107 a108", "a1 a3 a4 b4")
}

func TestP101Parent(t *testing.T) {
	b := book.New()
	addAll(t, b, "a", block(1, 0), block(2, 0), step(3), cancel(2), step(4), cancel(4))
	addAll(t, b, "b", block(5, 0), step(6))
	wantAdd(t, b, "a", block(9, 2), api.ErrParent) // was cancelled
	wantAdd(t, b, "a", block(9, 3), api.ErrParent) // a step
	wantAdd(t, b, "a", block(9, 4), api.ErrParent) // a step that was cancelled
	wantAdd(t, b, "a", block(9, 5), api.ErrParent) // another's
	wantAdd(t, b, "a", block(9, 6), api.ErrParent) // another's step
	wantAdd(t, b, "a", block(9, 9), api.ErrParent) // its own
	wantAdd(t, b, "a", block(9, 7), api.ErrParent) // never was
	wantAdd(t, b, "a", block(9, math.MaxInt), api.ErrParent)
	wantAdd(t, b, "a", block(1, 1), api.ErrTwice)
	wantAdd(t, b, "b", block(1, 1), api.ErrParent)
	wantNames(t, b, "a3 b6", "a1 b5")
	addAll(t, b, "a", block(9, 1), block(8, 9))
	addAll(t, b, "b", block(1, 5), block(2, 1))
	wantNames(t, b, "a3 b6", "a1 a8 a9 b1 b2 b5")
}

// A Parent that is not above 0 is none.
func TestP101NoParent(t *testing.T) {
	for _, parent := range []int{0, -1, -1000, math.MinInt} {
		b := book.New()
		addAll(t, b, "a", block(1, parent), block(parent, parent), cancel(parent), cancel(1))
		addAll(t, b, "b", step(parent), block(1, parent), cancel(parent), block(2, parent))
		if k := b.Blocks(); len(k) != 2 || k[0].Parent != parent || k[1].Parent != parent {
			t.Errorf("a Parent %d is told as %+v", parent, k)
		}
	}
}

// A step has no Parent, whatever its ask has as a Block's.
func TestP101AStepHasNoParent(t *testing.T) {
	b, a := book.New(), step(2)
	a.Block = block(5, 1).Block
	addAll(t, b, "a", block(1, 0), a, cancel(1))
	wantNames(t, b, "a2", "")
}

func TestP101Collateral(t *testing.T) {
	for _, of := range []func(seq, cents int) order.Ask{buys, buysBlock} {
		b := book.New()
		wantAdd(t, b, "a", of(1, 1), api.ErrCollateral)
		addAll(t, b, "a", of(1, 0), of(2, -5), lock(100))
		addAll(t, b, "b", lock(1000))
		wantAdd(t, b, "a", of(3, 101), api.ErrCollateral)
		addAll(t, b, "a", cancel(1), of(3, 100))
		wantAdd(t, b, "a", buys(4, 1), api.ErrCollateral)
		wantAdd(t, b, "a", buysBlock(4, 1), api.ErrCollateral)
		addAll(t, b, "a", step(4))
		wantOne(t, b, "a", one{100, 100, 6})
		addAll(t, b, "a", lock(7))
		wantAdd(t, b, "a", of(5, 8), api.ErrCollateral)
		// What is cancelled owes nothing.
		addAll(t, b, "a", cancel(3), cancel(2))
		wantAdd(t, b, "a", of(5, 108), api.ErrCollateral)
		addAll(t, b, "a", of(5, 107))
		wantOne(t, b, "a", one{107, 107, 10})
		wantOne(t, b, "b", one{1000, 0, 1})
	}
}

// What is owed is that of steps and blocks, of those that buy and that sell.
func TestP101CollateralOfAll(t *testing.T) {
	b, owes := book.New(), 0
	for i, c := range []struct {
		a    order.Ask
		more int
	}{
		{order.Ask{Kind: order.Step, Step: api.Step{Seq: 1, Buy: true, Qty: 10, Price: 50}}, 500},
		{order.Ask{Kind: order.Step, Step: api.Step{Seq: 2, Qty: 10, Price: -5}}, 50},
		{order.Ask{Kind: order.Block, Block: api.Block{Seq: 3, Buy: true, Qty: []int{1, 2, 3}, Price: 7}}, 42},
		{order.Ask{Kind: order.Block, Block: api.Block{Seq: 4, Qty: []int{4, 0, 1}, Price: -9, Parent: 3}}, 45},
	} {
		addAll(t, b, "a", lock(c.more-1))
		wantAdd(t, b, "a", c.a, api.ErrCollateral)
		addAll(t, b, "a", lock(1), c.a)
		owes += c.more
		wantOne(t, b, "a", one{owes, owes, 3 * (i + 1)})
	}
	for _, a := range []order.Ask{
		{Kind: order.Step, Step: api.Step{Seq: 5, Qty: 1000, Price: 3000}},
		{Kind: order.Step, Step: api.Step{Seq: 6, Buy: true, Qty: 1000, Price: -3000}},
		{Kind: order.Block, Block: api.Block{Seq: 7, Qty: []int{1000}, Price: 3000}},
	} {
		addAll(t, b, "a", a)
	}
	wantOne(t, b, "a", one{637, 637, 15})
}

// The greatest numbers that order.Owes promises something of.
func TestP101CollateralOfGreatNumbers(t *testing.T) {
	b := book.New()
	for range 16 {
		addAll(t, b, "a", lock(billion))
	}
	great := order.Ask{Kind: order.Block, Block: api.Block{Seq: 1, Buy: true, Price: 1000, Qty: slices.Repeat([]int{1000000}, 16)}}
	addAll(t, b, "a", great)
	wantOne(t, b, "a", one{16 * billion, 16 * billion, 17})
	wantAdd(t, b, "a", buys(2, 1), api.ErrCollateral)
	great.Block.Seq, great.Block.Price = 2, 1000000
	wantAdd(t, b, "a", great, api.ErrCollateral)
	great.Block.Buy, great.Block.Price = false, -1000000
	wantAdd(t, b, "a", great, api.ErrCollateral)
	addAll(t, b, "a", cancel(1))
	wantAdd(t, b, "a", great, api.ErrCollateral)
}

// Orders whose Qty is below 0 owe less than nothing; behind the cancel of one
// more may be owed than is locked, and nothing is taken till less is.
func TestP101QuantitiesBelowNothing(t *testing.T) {
	b := book.New()
	less := order.Ask{Kind: order.Step, Step: api.Step{Seq: 1, Buy: true, Qty: -2, Price: 10}}
	addAll(t, b, "a", less)
	wantOne(t, b, "a", one{0, -20, 1})
	wantAdd(t, b, "a", buys(2, 21), api.ErrCollateral)
	addAll(t, b, "a", buys(2, 20), cancel(1))
	wantOne(t, b, "a", one{0, 20, 3})
	wantAdd(t, b, "a", step(3), api.ErrCollateral)
	addAll(t, b, "a", lock(20), step(3))
	wantOne(t, b, "a", one{20, 20, 5})
}

// Beyond what is promised of order.Owes each call still must end.
func TestP101AnyNumbersEnd(t *testing.T) {
	b := book.New()
	for i, n := range []int{math.MinInt, math.MaxInt, -billion, billion} {
		for k, buy := range []bool{false, true} {
			who := strconv.Itoa(2*i + k)
			b.Add(who, lock(n))
			b.Add(who, order.Ask{Kind: order.Step, Step: api.Step{Seq: n, Zone: n, Hour: n, Buy: buy, Qty: n, Price: n}})
			b.Add(who, order.Ask{Kind: order.Block, Block: api.Block{Seq: 1, Zone: n, Buy: buy, Price: n, Qty: slices.Repeat([]int{n}, 1000), Parent: n, Group: n}})
			b.Add(who, cancel(n))
			tellOf(b, who)
		}
	}
}

func TestP101Cancel(t *testing.T) {
	b := book.New()
	wantAdd(t, b, "a", cancel(1), api.ErrNone)
	addAll(t, b, "a", step(1), block(2, 0), step(3))
	addAll(t, b, "b", step(1), step(4))
	wantAdd(t, b, "a", cancel(4), api.ErrNone) // another's
	wantAdd(t, b, "a", cancel(0), api.ErrNone)
	wantAdd(t, b, "a", cancel(-1), api.ErrNone)
	wantAdd(t, b, "c", cancel(1), api.ErrNone)
	wantNames(t, b, "a1 a3 b1 b4", "a2")
	addAll(t, b, "a", cancel(1))
	wantNames(t, b, "a3 b1 b4", "a2")
	wantAdd(t, b, "a", cancel(1), api.ErrNone)
	addAll(t, b, "a", cancel(2))
	wantNames(t, b, "a3 b1 b4", "")
	wantAdd(t, b, "a", cancel(2), api.ErrNone)
	addAll(t, b, "b", cancel(1))
	wantNames(t, b, "a3 b4", "")
	wantOne(t, b, "a", one{0, 0, 5})
	wantOne(t, b, "b", one{0, 0, 3})
	wantOne(t, b, "c", one{})
}

func TestP101CancelOfAParent(t *testing.T) {
	b := book.New()
	addAll(t, b, "a", block(1, 0), block(2, 1), block(3, 2))
	addAll(t, b, "b", block(1, 0), block(2, 0), step(3))
	wantAdd(t, b, "a", cancel(1), api.ErrParent)
	wantAdd(t, b, "a", cancel(2), api.ErrParent)
	// Another's Parent is none of one's own.
	addAll(t, b, "b", cancel(1), cancel(2))
	addAll(t, b, "a", cancel(3))
	wantAdd(t, b, "a", cancel(1), api.ErrParent)
	wantAdd(t, b, "a", cancel(3), api.ErrNone)
	addAll(t, b, "a", cancel(2))
	wantAdd(t, b, "a", block(4, 2), api.ErrParent)
	addAll(t, b, "a", cancel(1))
	wantNames(t, b, "b3", "")
}

func TestP101CancelOfAParentOfTwo(t *testing.T) {
	b := book.New()
	addAll(t, b, "a", block(5, 0), block(4, 5), block(6, 5))
	wantAdd(t, b, "a", cancel(5), api.ErrParent)
	addAll(t, b, "a", cancel(4))
	wantAdd(t, b, "a", cancel(5), api.ErrParent)
	addAll(t, b, "a", cancel(6), cancel(5))
	wantNames(t, b, "", "")
}

// Each error of an order is told ahead of those that its promise names behind
// it.
func TestP101TheFirstOfSeveralErrors(t *testing.T) {
	b := book.New()
	for seq := range api.MaxSteps {
		addAll(t, b, "a", step(1+seq))
	}
	addAll(t, b, "a", block(11, 0), block(12, 0), block(13, 0))
	twice, many := func(parent int) order.Ask { return block(11, parent) }, func(parent int) order.Ask { return block(14, parent) }
	dear := func(a order.Ask) order.Ask {
		a.Step.Price, a.Block.Buy, a.Block.Price = 50, true, 50
		return a
	}
	wantAdd(t, b, "a", dear(step(1)), api.ErrTwice)
	wantAdd(t, b, "a", dear(step(11)), api.ErrTwice)
	wantAdd(t, b, "a", dear(twice(99)), api.ErrTwice)
	wantAdd(t, b, "a", dear(twice(0)), api.ErrTwice)
	wantAdd(t, b, "a", dear(step(9)), api.ErrQuota)
	wantAdd(t, b, "a", dear(many(99)), api.ErrQuota)
	wantAdd(t, b, "a", dear(many(11)), api.ErrQuota)
	addAll(t, b, "a", cancel(13), cancel(8))
	wantAdd(t, b, "a", dear(many(99)), api.ErrParent)
	wantAdd(t, b, "a", dear(many(13)), api.ErrParent)
	wantAdd(t, b, "a", dear(many(11)), api.ErrCollateral)
	wantAdd(t, b, "a", dear(many(0)), api.ErrCollateral)
	wantAdd(t, b, "a", dear(step(9)), api.ErrCollateral)
	addAll(t, b, "a", lock(50+150), dear(many(11)), dear(step(9)))
	wantOne(t, b, "a", one{200, 200, 16})
}

// A cancel of what is not there is none, even if a block names it.
func TestP101CancelOfNothingComesFirst(t *testing.T) {
	b := book.New()
	addAll(t, b, "a", block(1, -7), block(2, 1))
	wantAdd(t, b, "a", cancel(-7), api.ErrNone)
	wantAdd(t, b, "a", cancel(0), api.ErrNone)
	wantAdd(t, b, "b", cancel(1), api.ErrNone)
}
