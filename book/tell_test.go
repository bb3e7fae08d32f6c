package book_test

import (
	"reflect"
	"slices"
	"strconv"
	"strings"
	"testing"
	"unsafe"

	"noonbell/api"
	"noonbell/book"
	"noonbell/order"
)

// strange are names of all kinds, most of which lex would not take.
func strange() []string {
	return []string{"", "\x00", " ", "A", "Z", "a", "a\x00", "aa", "ab", "admin", "b", "z", "~", "é", "ß", "α", "αa", "αβ", "β", "ω", "中", "😀", "\xff", "\xff\xff"}
}

// rising are the same, byte by byte.
func rising() []string {
	l := strange()
	slices.SortFunc(l, func(a, b string) int { return slices.Compare([]byte(a), []byte(b)) })
	return l
}

func TestP102OfOneWhoNeverAsked(t *testing.T) {
	b := book.New()
	if x := tellOf(b); len(x.who)+len(x.steps)+len(x.blocks) != 0 {
		t.Errorf("a new book tells %+v", x)
	}
	addAll(t, b, "b", lock(5), buys(1, 5), block(2, 0))
	for _, who := range []string{"", "a", "bb", "B", "c", "β", "b\x00"} {
		wantOne(t, b, who, one{})
	}
	if l := b.Who(); !slices.Equal(l, []string{"b"}) {
		t.Errorf("Who is %q", l)
	}
}

// Who was refused alone has not been there.
func TestP102WhoWasRefused(t *testing.T) {
	b := book.New()
	wantAdd(t, b, "a", order.Ask{}, api.ErrArg)
	wantAdd(t, b, "b", lock(0), api.ErrArg)
	wantAdd(t, b, "c", cancel(1), api.ErrNone)
	wantAdd(t, b, "d", block(1, 2), api.ErrParent)
	wantAdd(t, b, "e", buys(1, 1), api.ErrCollateral)
	b.May("f", lock(5))
	b.May("g", step(5))
	if l := b.Who(); len(l) != 0 {
		t.Errorf("Who is %q", l)
	}
}

// One Add of any kind is enough, and a cancel of all does not undo it.
func TestP102WhoWasThere(t *testing.T) {
	b := book.New()
	addAll(t, b, "d", lock(1))
	addAll(t, b, "c", step(1))
	addAll(t, b, "b", block(1, 0))
	addAll(t, b, "a", step(1), cancel(1))
	if l := b.Who(); !slices.Equal(l, []string{"a", "b", "c", "d"}) {
		t.Errorf("Who is %q", l)
	}
	wantOne(t, b, "a", one{0, 0, 2})
	wantOne(t, b, "b", one{0, 0, 1})
	wantOne(t, b, "c", one{0, 0, 1})
	wantOne(t, b, "d", one{1, 0, 1})
}

func TestP102LockedOwesAsks(t *testing.T) {
	b := book.New()
	for i, c := range []struct {
		a    order.Ask
		e    api.Errno
		want one
	}{
		{lock(100), api.OK, one{100, 0, 1}},
		{buys(1, 30), api.OK, one{100, 30, 2}},
		{buysBlock(2, 40), api.OK, one{100, 70, 3}},
		{buys(3, 31), api.ErrCollateral, one{100, 70, 3}},
		{lock(1), api.OK, one{101, 70, 4}},
		{buys(3, 31), api.OK, one{101, 101, 5}},
		{cancel(1), api.OK, one{101, 71, 6}},
		{cancel(1), api.ErrNone, one{101, 71, 6}},
		{block(4, 2), api.OK, one{101, 71, 7}},
		{cancel(2), api.ErrParent, one{101, 71, 7}},
		{cancel(4), api.OK, one{101, 71, 8}},
		{cancel(2), api.OK, one{101, 31, 9}},
		{order.Ask{Kind: order.Step, Step: api.Step{Seq: 9, Qty: 7, Price: -10}}, api.OK, one{101, 101, 10}},
		{lock(billion), api.OK, one{101 + billion, 101, 11}},
	} {
		wantAdd(t, b, "a", c.a, c.e)
		if got := toldOf(b, "a"); got != c.want {
			t.Errorf("row %d: %+v, not %+v", i, got, c.want)
		}
	}
}

func TestP102NamesRiseByBytes(t *testing.T) {
	for _, l := range [][]string{strange(), reversed(strange())} {
		b := book.New()
		for _, who := range l {
			addAll(t, b, who, lock(1), step(2), block(3, 0))
		}
		got, want := b.Who(), rising()
		if !slices.Equal(got, want) {
			t.Errorf("Who is %q, not %q", got, want)
		}
		for i, x := range b.Steps() {
			if x.Who != want[i] {
				t.Errorf("step %d is of %q, not %q", i, x.Who, want[i])
			}
		}
		for i, x := range b.Blocks() {
			if x.Who != want[i] {
				t.Errorf("block %d is of %q, not %q", i, x.Who, want[i])
			}
		}
	}
}

func reversed(l []string) []string {
	slices.Reverse(l)
	return l
}

// By Who and then by Seq as a number, whatever the order of the Adds was.
func TestP103Order(t *testing.T) {
	b := book.New()
	for _, who := range []string{"b", "a", "ab", "B", "β"} {
		for _, seq := range []int{10, 9, 100, 1, -3, 0, 1000, 2} {
			addAll(t, b, who, step(seq))
		}
		for _, seq := range []int{20, 3, 200} {
			addAll(t, b, who, block(seq, 0))
		}
	}
	var steps, blocks []string
	for _, who := range []string{"B", "a", "ab", "b", "β"} {
		for _, seq := range []string{"-3", "0", "1", "2", "9", "10", "100", "1000"} {
			steps = append(steps, who+seq)
		}
		for _, seq := range []string{"3", "20", "200"} {
			blocks = append(blocks, who+seq)
		}
	}
	wantNames(t, b, strings.Join(steps, " "), strings.Join(blocks, " "))
}

// Each field has a number of its own, so that none stands for another one.
func TestP103TheWholeOrder(t *testing.T) {
	b := book.New()
	steps := []api.Step{
		{Who: "ann", Seq: 1, Zone: 2, Hour: 3, Buy: true, Qty: 4, Price: 5},
		{Who: "ann", Seq: 6, Zone: 7, Hour: 8, Qty: 9, Price: -10},
	}
	blocks := []api.Block{
		{Who: "ann", Seq: 11, Zone: 12, Buy: true, Price: 13, Qty: []int{14, 0, 15}, Group: 16},
		{Who: "ann", Seq: 17, Zone: 18, Price: -19, Qty: []int{20, 21, 22}, Parent: 11, Group: 23},
	}
	addAll(t, b, "ann", lock(20+90+29*13+63*19))
	for i := range 2 {
		s, k := steps[i], blocks[i]
		s.Who, k.Who = "somebody", "αβ"
		addAll(t, b, "ann", order.Ask{Kind: order.Step, Seq: 99, Cents: 98, Step: s, Block: k})
		addAll(t, b, "ann", order.Ask{Kind: order.Block, Seq: 97, Cents: 96, Step: s, Block: k})
	}
	for range 2 {
		if got := b.Steps(); !reflect.DeepEqual(got, steps) {
			t.Errorf("steps %+v, not %+v", got, steps)
		}
		if got := b.Blocks(); !reflect.DeepEqual(got, blocks) {
			t.Errorf("blocks %+v, not %+v", got, blocks)
		}
	}
}

// Who an order is of hangs on who adds it alone.
func TestP103WhoAsWho(t *testing.T) {
	b := book.New()
	for _, who := range strange() {
		for i, said := range []string{"", "a", who, "z"} {
			s, k := step(i), block(10+i, 0)
			s.Step.Who, k.Block.Who = said, said
			addAll(t, b, who, s)
			if i < api.MaxBlocks {
				addAll(t, b, who, k)
			}
		}
	}
	for i, x := range b.Steps() {
		if x.Who != rising()[i/4] {
			t.Errorf("step %d is of %q", i, x.Who)
		}
	}
	for i, x := range b.Blocks() {
		if x.Who != rising()[i/3] {
			t.Errorf("block %d is of %q", i, x.Who)
		}
	}
	if l := b.Who(); !slices.Equal(l, rising()) {
		t.Errorf("Who is %q", l)
	}
}

// Blocks may have any number of Qtys.
func TestP103QtysOfAnyLength(t *testing.T) {
	b := book.New()
	for n, who := range []string{"a", "b", "c", "d"} {
		k := block(1, 0)
		k.Block.Qty = []int{5, 6, 7}[:n]
		addAll(t, b, who, k)
	}
	k := block(1, 0)
	k.Block.Qty = nil
	addAll(t, b, "e", k)
	for i, x := range b.Blocks() {
		if want := []int{5, 6, 7}[:i%4]; !slices.Equal(x.Qty, want) {
			t.Errorf("Qty of block %d: %v, not %v", i, x.Qty, want)
		}
	}
}

// scripts are asks of some participants, with their errors.
func scripts() map[string][]order.Ask {
	return map[string][]order.Ask{
		"a": {lock(10), buys(1, 10), buys(2, 1), cancel(1)},
		"b": {block(1, 0), block(2, 1), cancel(1), cancel(2)},
		"β": {step(1), step(1), block(2, 1)},
	}
}

func runScript(b *book.Book, who string, from, to int) (l []api.Errno) {
	for _, a := range scripts()[who][from:to] {
		l = append(l, b.Add(who, a))
	}
	return l
}

// merges are all orders in which the names' asks may come, so many of each.
func merges(left map[string]int) [][]string {
	var l [][]string
	for _, who := range []string{"a", "b", "β"} {
		if left[who] == 0 {
			continue
		}
		left[who]--
		for _, rest := range merges(left) {
			l = append(l, append([]string{who}, rest...))
		}
		left[who]++
	}
	if l == nil {
		return [][]string{nil}
	}
	return l
}

// In all orders in which the Adds of three may come, each has the answers it
// would have alone, and the book is the same.
func TestP104WhoeverComesFirst(t *testing.T) {
	alone, many := map[string][]api.Errno{}, map[string]int{}
	straight := book.New()
	for who, l := range scripts() {
		alone[who] = runScript(book.New(), who, 0, len(l))
		runScript(straight, who, 0, len(l))
		many[who] = len(l)
	}
	want := tellOf(straight, "a", "b", "β", "c")
	all := merges(many)
	for _, turns := range all {
		b, at := book.New(), map[string]int{}
		for _, who := range turns {
			got := runScript(b, who, at[who], at[who]+1)
			if got[0] != alone[who][at[who]] {
				t.Fatalf("%v: ask %d of %q: error %d, not %d", turns, at[who], who, got[0], alone[who][at[who]])
			}
			at[who]++
		}
		if is := tellOf(b, "a", "b", "β", "c"); !reflect.DeepEqual(is, want) {
			t.Fatalf("%v: %+v, not %+v", turns, is, want)
		}
	}
	if len(all) != 11550 {
		t.Errorf("%d orders of Adds", len(all))
	}
}

// inside tells whether a byte of the one text lies where one of the other's
// does.
func inside(a, b string) bool {
	from, other := uintptr(unsafe.Pointer(unsafe.StringData(a))), uintptr(unsafe.Pointer(unsafe.StringData(b)))
	return from < other+uintptr(len(b)) && other < from+uintptr(len(a))
}

func TestP103WhatIsHandedIn(t *testing.T) {
	b, room := book.New(), []int{1, 2, 3, 77, 78}
	a := order.Ask{Kind: order.Block, Block: api.Block{Who: "x", Seq: 1, Buy: true, Price: 10, Qty: room[:3]}}
	addAll(t, b, "a", lock(60), a)
	if !slices.Equal(room, []int{1, 2, 3, 77, 78}) || len(a.Block.Qty) != 3 || a.Block.Who != "x" {
		t.Errorf("what was handed in is %v, %+v", room, a)
	}
	for i := range room {
		room[i] = 9
	}
	if k := b.Blocks(); len(k) != 1 || !slices.Equal(k[0].Qty, []int{1, 2, 3}) || b.Owes("a") != 60 {
		t.Errorf("what was handed in is kept: %+v, owes %d", k, b.Owes("a"))
	}
	addAll(t, b, "a", cancel(1))
	if !slices.Equal(room, []int{9, 9, 9, 9, 9}) {
		t.Errorf("what was handed in is %v behind a cancel", room)
	}
}

// A name that was handed in is not kept, and not told as it lay there.
func TestP103MemoryOfNames(t *testing.T) {
	b, who := book.New(), strings.Repeat("participant", 3)
	addAll(t, b, who, step(1), step(2), block(3, 0), block(4, 0))
	var l []string
	for range 2 {
		l = append(l, b.Who()...)
		for _, x := range b.Steps() {
			l = append(l, x.Who)
		}
		for _, x := range b.Blocks() {
			l = append(l, x.Who)
		}
	}
	for i, name := range l {
		if name != who || inside(name, who) {
			t.Errorf("name %d: %q, or it lies where it was handed in", i, name)
		}
		for k := range i {
			if inside(name, l[k]) {
				t.Errorf("names %d and %d share memory", k, i)
			}
		}
	}
}

// A name whose bytes are overwritten behind the Adds.
func TestP103NamesAreNotKept(t *testing.T) {
	b, room := book.New(), []byte("ann")
	who := unsafe.String(&room[0], len(room))
	s, k := step(1), block(2, 0)
	s.Step.Who, k.Block.Who = who, who
	addAll(t, b, who, lock(5), s, k)
	copy(room, "zzz")
	if l := b.Who(); !slices.Equal(l, []string{"ann"}) {
		t.Errorf("Who is %q", l)
	}
	wantNames(t, b, "ann1", "ann2")
	wantOne(t, b, "ann", one{5, 0, 3})
	wantOne(t, b, "zzz", one{})
	addAll(t, b, "ann", cancel(1), cancel(2))
	wantNames(t, b, "", "")
}

// spoil overwrites a list with all of its spare room.
func spoil[T any](l []T, with T) {
	l = l[:cap(l)]
	for i := range l {
		l[i] = with
	}
}

func TestP103WhatIsAnswered(t *testing.T) {
	b := book.New()
	for _, who := range []string{"a", "b", "c"} {
		addAll(t, b, who, lock(100), buys(1, 2), buysBlock(2, 3), block(3, 2), block(4, 3), step(5))
	}
	want, again := tellOf(b, "d"), tellOf(b, "d")
	x := tellOf(b)
	for i := range x.blocks {
		spoil(x.blocks[i].Qty, 999)
		for k := i + 1; k < len(x.blocks); k++ {
			if !slices.Equal(x.blocks[k].Qty, want.blocks[k].Qty) {
				t.Fatalf("blocks %d and %d of one answer share memory", i, k)
			}
		}
	}
	spoil(x.blocks, api.Block{Who: "z"})
	spoil(x.steps, api.Step{Who: "z"})
	spoil(x.who, "z")
	for what, is := range map[string]told{"the book": tellOf(b, "d"), "another answer": again} {
		if !reflect.DeepEqual(is, want) {
			t.Errorf("%s: %+v, not %+v", what, is, want)
		}
	}
	// Answers that were given ahead stay as they were.
	addAll(t, b, "b", cancel(4), cancel(3), block(6, 2), cancel(1), step(7), lock(1))
	addAll(t, b, "aa", step(1), block(2, 0))
	if !reflect.DeepEqual(again, want) {
		t.Errorf("an answer has changed: %+v, not %+v", again, want)
	}
}

func TestP101TwoBooks(t *testing.T) {
	x, y := book.New(), book.New()
	addAll(t, x, "a", lock(10), buys(1, 10), block(2, 0))
	if z := tellOf(y, "a"); len(z.who)+len(z.steps)+len(z.blocks) != 0 || z.of["a"] != (one{}) {
		t.Errorf("the other book tells %+v", z)
	}
	wantAdd(t, y, "a", cancel(1), api.ErrNone)
	wantAdd(t, y, "a", block(3, 2), api.ErrParent)
	wantAdd(t, y, "a", buys(1, 1), api.ErrCollateral)
	addAll(t, y, "a", step(1), step(2))
	for range api.MaxAsks - 3 {
		addAll(t, x, "a", lock(1))
	}
	wantAdd(t, x, "a", lock(1), api.ErrQuota)
	addAll(t, y, "a", lock(1), cancel(1))
	wantNames(t, x, "a1", "a2")
	wantNames(t, y, "a2", "")
	wantOne(t, x, "a", one{31, 10, 24})
	wantOne(t, y, "a", one{1, 0, 4})
}

// A book has no limit of its own of how many take part.
func TestP102ManyTakePart(t *testing.T) {
	b := book.New()
	for i := range 1000 {
		who := strconv.Itoa(i)
		for seq := range api.MaxSteps {
			if e := b.Add(who, step(seq)); e != api.OK {
				t.Fatalf("Add of %s, step %d: error %d", who, seq, e)
			}
		}
	}
	if n, k := len(b.Who()), len(b.Steps()); n != 1000 || k != 8000 {
		t.Errorf("%d take part, with %d steps", n, k)
	}
}
