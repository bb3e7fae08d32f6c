package order_test

import (
	"math"
	"reflect"
	"slices"
	"strconv"
	"strings"
	"testing"
	"unsafe"

	"noonbell/api"
	"noonbell/order"
)

const billion = 1000000000

func smallGrid() api.Grid {
	return api.Grid{Zones: 2, Hours: 1, Low: -500, High: 3000}
}

func wideGrid() api.Grid {
	return api.Grid{Zones: 3, Hours: 3, Lines: []api.Line{{From: 0, To: 1, Cap: 5}}, Low: -500, High: 3000}
}

// shown is a text as a fault tells it.
func shown(s string) string {
	if len(s) > 80 {
		return strconv.QuoteToASCII(s[:80]) + ".. of " + strconv.Itoa(len(s)) + " bytes"
	}
	return strconv.QuoteToASCII(s)
}

// wantAsk holds that the line is parsed as the ask, twice, and printed as it
// came.
func wantAsk(t *testing.T, who, line string, g api.Grid, want order.Ask) {
	t.Helper()
	for range 2 {
		got, e := order.Parse(who, line, g)
		if e != api.OK || !reflect.DeepEqual(got, want) {
			t.Errorf("Parse of %s: %+v, error %d, not %+v", shown(line), got, e, want)
		}
		if back := order.Print(got); e == api.OK && back != line {
			t.Errorf("Print of what %s is: %s", shown(line), shown(back))
		}
	}
}

// wantError holds that the line is refused so, with nothing beside the error.
func wantError(t *testing.T, line string, g api.Grid, want api.Errno) {
	t.Helper()
	got, e := order.Parse("a", line, g)
	if e != want || !reflect.DeepEqual(got, order.Ask{}) {
		t.Errorf("Parse of %s in %+v: %+v, error %d, not %d", shown(line), g, got, e, want)
	}
}

// wantEither holds that the line is taken, and printed as it came, or refused
// so.
func wantEither(t *testing.T, line string, g api.Grid, want api.Errno) {
	t.Helper()
	if want != api.OK {
		wantError(t, line, g, want)
		return
	}
	got, e := order.Parse("a", line, g)
	if back := order.Print(got); e != api.OK || back != line {
		t.Errorf("Parse of %s in %+v: %+v, error %d; printed %s", shown(line), g, got, e, shown(back))
	}
}

func TestP91Examples(t *testing.T) {
	g := smallGrid()
	wantAsk(t, "a", "step 1 0 0 buy 10 50", g, order.Ask{Kind: 2, Step: api.Step{Who: "a", Seq: 1, Buy: true, Qty: 10, Price: 50}})
	wantError(t, "step 1 2 0 buy 10 50", g, api.ErrZone)
	wantError(t, "step 1 0 0 bye 10 50", g, api.ErrField)
}

func TestP92Examples(t *testing.T) {
	g := smallGrid()
	for line, want := range map[string]int{"step 1 0 0 buy 10 50": 500, "step 1 0 0 sell 10 -5": 50} {
		a, e := order.Parse("a", line, g)
		if got := order.Owes(a); e != api.OK || got != want {
			t.Errorf("Owes of %s: %d, error %d, not %d", line, got, e, want)
		}
	}
}

func TestP91Kinds(t *testing.T) {
	if order.Lock != 1 || order.Step != 2 || order.Block != 3 || order.Cancel != 4 {
		t.Errorf("the kinds are %d, %d, %d, %d", order.Lock, order.Step, order.Block, order.Cancel)
	}
}

// Each field has a number of its own, so that none stands for another one; and
// those that the kind does not fill are compared, too.
func TestP91TheWholeAsk(t *testing.T) {
	g := wideGrid()
	for line, want := range map[string]order.Ask{
		"lock 345":   {Kind: order.Lock, Cents: 345},
		"cancel 678": {Kind: order.Cancel, Seq: 678},
		"step 7 1 2 buy 30 400": {Kind: order.Step,
			Step: api.Step{Who: "ann", Seq: 7, Zone: 1, Hour: 2, Buy: true, Qty: 30, Price: 400}},
		"step 8 2 1 sell 40 -300": {Kind: order.Step,
			Step: api.Step{Who: "ann", Seq: 8, Zone: 2, Hour: 1, Qty: 40, Price: -300}},
		"block 11 2 buy 55 6,7,8 12 9": {Kind: order.Block,
			Block: api.Block{Who: "ann", Seq: 11, Zone: 2, Buy: true, Price: 55, Qty: []int{6, 7, 8}, Parent: 12, Group: 9}},
		"block 13 1 sell -66 0,1000,0 0 4": {Kind: order.Block,
			Block: api.Block{Who: "ann", Seq: 13, Zone: 1, Price: -66, Qty: []int{0, 1000, 0}, Group: 4}},
		"block 14 0 sell 0 1,0,0 14 0": {Kind: order.Block,
			Block: api.Block{Who: "ann", Seq: 14, Qty: []int{1, 0, 0}, Parent: 14}},
	} {
		wantAsk(t, "ann", line, g, want)
	}
}

// Who is told as it is handed in, whatever it is.
func TestP91Who(t *testing.T) {
	g := wideGrid()
	for _, who := range []string{"", "a", "αβ", "admin", "no name", "A\x00\xff", strings.Repeat("a", 4000)} {
		wantAsk(t, who, "step 1 0 0 sell 1 1", g, order.Ask{Kind: order.Step, Step: api.Step{Who: who, Seq: 1, Qty: 1, Price: 1}})
		wantAsk(t, who, "block 1 0 sell 1 1,1,1 0 0", g, order.Ask{Kind: order.Block,
			Block: api.Block{Who: who, Seq: 1, Price: 1, Qty: []int{1, 1, 1}}})
		wantAsk(t, who, "lock 1", g, order.Ask{Kind: order.Lock, Cents: 1})
		wantAsk(t, who, "cancel 1", g, order.Ask{Kind: order.Cancel, Seq: 1})
	}
}

func TestP91ErrorsOfWords(t *testing.T) {
	g := wideGrid()
	many := strings.Repeat("a ", 16) + "a"
	for _, c := range []struct {
		line string
		e    api.Errno
	}{
		{"", api.ErrWord},
		{" ", api.ErrWord},
		{" lock 5", api.ErrWord},
		{"lock 5 ", api.ErrWord},
		{"lock  5", api.ErrWord},
		{"step 1 0 0 buy  10 50", api.ErrWord},
		{"Lock 5", api.ErrRune},
		{"lock\t5", api.ErrRune},
		{"lock 5\n", api.ErrRune},
		{"lock +5", api.ErrRune},
		{"lock 5.0", api.ErrRune},
		{"lock 5\xff", api.ErrRune},
		{"step 1 0 0 BUY 10 50", api.ErrRune},
		{"block 1 0 buy 5 1;1;1 0 0", api.ErrRune},
		{many, api.ErrMany},
		{"step 1 0 0 buy 10 50 " + many, api.ErrMany},
		{"lock " + strings.Repeat("9", 195), api.ErrNumber},
		{"lock " + strings.Repeat("9", 196), api.ErrSize},
		{strings.Repeat("a", 200), api.ErrVerb},
		{strings.Repeat("a", 201), api.ErrSize},
		{strings.Repeat("A ", 200), api.ErrSize},
		{strings.Repeat("ω", 100), api.ErrVerb},
		{strings.Repeat("ω", 100) + "a", api.ErrSize},
		{strings.Repeat("lock 5", 1000), api.ErrSize},
	} {
		wantError(t, c.line, g, c.e)
	}
}

// Words' errors are told ahead of the line's own ones.
func TestP91ErrorsOfWordsComeFirst(t *testing.T) {
	g := wideGrid()
	for _, line := range []string{"ask", "lock", "lock 5 6", "lock x", "lock 0", "step 0 9 9 bye 0 9999", "cancel 5"} {
		wantError(t, line+" ", g, api.ErrWord)
		wantError(t, " "+line, g, api.ErrWord)
		wantError(t, line+" A", g, api.ErrRune)
		wantError(t, line+strings.Repeat(" 0", 16), g, api.ErrMany)
		wantError(t, line+" "+strings.Repeat("0", 200), g, api.ErrSize)
	}
}

func TestP91Verb(t *testing.T) {
	g := wideGrid()
	for _, verb := range []string{
		"ask", "loc", "lockk", "locks", "llock", "ste", "steps", "block1", "blocks", "cance", "cancels", "close", "clear", "settle",
		"trial", "report", "mine", "balance", "buy", "sell", "1", "-", ",", "step,", "-step", "λοκ", "l", "admin", "step-1", "stepα",
	} {
		for _, rest := range []string{"", " 5", " x", " 1 0 0 buy 10 50", " 1 0 buy 5 1,1,1 0 0", " lock 5", " 1 1 1 1 1 1 1 1 1 1 1"} {
			wantError(t, verb+rest, g, api.ErrVerb)
		}
	}
}

// goodLines are the words of one line of each kind.
func goodLines() [][]string {
	return [][]string{
		{"lock", "5"},
		{"step", "1", "0", "0", "buy", "10", "50"},
		{"block", "2", "1", "sell", "-5", "3,0,1", "4", "5"},
		{"cancel", "7"},
	}
}

// From no field at all to fifteen, right ones and wrong ones.
func TestP91HowManyFields(t *testing.T) {
	g := wideGrid()
	for _, words := range goodLines() {
		for n := 1; n <= 16; n++ {
			for _, one := range []string{"1", "0", "x", "buy", "1,1,1", "-", "99999999999"} {
				line := slices.Clone(words[:min(n, len(words))])
				for len(line) < n {
					line = append(line, one)
				}
				if n == len(words) {
					wantEither(t, strings.Join(line, " "), g, api.OK)
					continue
				}
				wantError(t, strings.Join(line, " "), g, api.ErrField)
				for i := range line[1:] {
					line[1+i] = one
				}
				wantError(t, strings.Join(line, " "), g, api.ErrField)
			}
		}
	}
}

// A field that is missing in the middle, and one that is put in.
func TestP91AFieldLessOrMoreWithin(t *testing.T) {
	g := wideGrid()
	for _, words := range goodLines() {
		for i := 1; i < len(words); i++ {
			wantError(t, strings.Join(slices.Delete(slices.Clone(words), i, i+1), " "), g, api.ErrField)
			wantError(t, strings.Join(slices.Insert(slices.Clone(words), i, words[i]), " "), g, api.ErrField)
		}
	}
}

func TestP92PrintOfAnyNumbers(t *testing.T) {
	for _, c := range []struct {
		a    order.Ask
		line string
	}{
		{order.Ask{Kind: order.Lock, Cents: 5}, "lock 5"},
		{order.Ask{Kind: order.Lock}, "lock 0"},
		{order.Ask{Kind: order.Lock, Cents: -5, Seq: 9}, "lock -5"},
		{order.Ask{Kind: order.Lock, Cents: math.MaxInt}, "lock 9223372036854775807"},
		{order.Ask{Kind: order.Lock, Cents: math.MinInt}, "lock -9223372036854775808"},
		{order.Ask{Kind: order.Cancel, Seq: 5}, "cancel 5"},
		{order.Ask{Kind: order.Cancel}, "cancel 0"},
		{order.Ask{Kind: order.Cancel, Seq: -1, Cents: 9}, "cancel -1"},
		{order.Ask{Kind: order.Cancel, Seq: 1001}, "cancel 1001"},
		{order.Ask{Kind: order.Step}, "step 0 0 0 sell 0 0"},
		{order.Ask{Kind: order.Step, Seq: 9, Cents: 9, Step: api.Step{Who: "a b", Seq: 1, Zone: 2, Hour: 3, Buy: true, Qty: 4, Price: 5}}, "step 1 2 3 buy 4 5"},
		{order.Ask{Kind: order.Step, Step: api.Step{Seq: -1, Zone: -2, Hour: -3, Qty: -4, Price: -5}}, "step -1 -2 -3 sell -4 -5"},
		{order.Ask{Kind: order.Step, Step: api.Step{Seq: billion + 1, Zone: 1001, Hour: 99, Qty: 1001, Price: math.MinInt}}, "step 1000000001 1001 99 sell 1001 -9223372036854775808"},
		{order.Ask{Kind: order.Block, Seq: 9, Cents: 9, Block: api.Block{Who: "αβ", Seq: 1, Zone: 2, Buy: true, Price: 3, Qty: []int{4, 5}, Parent: 6, Group: 7}}, "block 1 2 buy 3 4,5 6 7"},
		{order.Ask{Kind: order.Block, Block: api.Block{Seq: -1, Zone: -2, Price: -3, Qty: []int{-4, 0, -5}, Parent: -6, Group: -7}}, "block -1 -2 sell -3 -4,0,-5 -6 -7"},
		{order.Ask{Kind: order.Block, Block: api.Block{Qty: []int{0}}}, "block 0 0 sell 0 0 0 0"},
		{order.Ask{Kind: order.Block, Block: api.Block{Qty: make([]int, 40)}}, "block 0 0 sell 0 0" + strings.Repeat(",0", 39) + " 0 0"},
		{order.Ask{Kind: order.Block, Block: api.Block{Qty: []int{math.MinInt, math.MaxInt}}}, "block 0 0 sell 0 -9223372036854775808,9223372036854775807 0 0"},
		{order.Ask{Kind: order.Block}, "block 0 0 sell 0  0 0"},
	} {
		for range 2 {
			if got := order.Print(c.a); got != c.line {
				t.Errorf("Print of %+v: %s, not %s", c.a, shown(got), shown(c.line))
			}
		}
	}
}

// What the other kinds fill does not count.
func TestP92PrintAndOwesByTheKindAlone(t *testing.T) {
	full := order.Ask{
		Cents: 1, Seq: 2,
		Step:  api.Step{Who: "a", Seq: 3, Zone: 4, Hour: 5, Buy: true, Qty: 6, Price: 7},
		Block: api.Block{Who: "b", Seq: 8, Zone: 9, Price: -10, Qty: []int{11, 12}, Parent: 13, Group: 14},
	}
	for kind, want := range map[int]struct {
		line string
		owes int
	}{
		order.Lock:   {"lock 1", 0},
		order.Step:   {"step 3 4 5 buy 6 7", 42},
		order.Block:  {"block 8 9 sell -10 11,12 13 14", 230},
		order.Cancel: {"cancel 2", 0},
		0:            {}, 5: {}, -1: {}, 6: {}, 90: {}, math.MaxInt: {}, math.MinInt: {},
	} {
		a := full
		a.Kind = kind
		if line, owes := order.Print(a), order.Owes(a); line != want.line || owes != want.owes {
			t.Errorf("kind %d: %s, owes %d, not %s, %d", kind, shown(line), owes, shown(want.line), want.owes)
		}
	}
}

func wantOwes(t *testing.T, a order.Ask, want int) {
	t.Helper()
	for range 2 {
		if got := order.Owes(a); got != want {
			t.Errorf("Owes of %+v: %d, not %d", a, got, want)
		}
	}
}

func TestP92OwesOfASide(t *testing.T) {
	for _, c := range []struct{ price, buys, sells int }{
		{-1000000, 0, 1000000}, {-500, 0, 500}, {-2, 0, 2}, {-1, 0, 1}, {0, 0, 0}, {1, 1, 0}, {2, 2, 0}, {3000, 3000, 0}, {1000000, 1000000, 0},
	} {
		for _, qty := range []int{0, 1, 2, 10, 1000, 1000000, -1, -3, -1000000} {
			wantOwes(t, order.Ask{Kind: order.Step, Step: api.Step{Buy: true, Qty: qty, Price: c.price}}, c.buys*qty)
			wantOwes(t, order.Ask{Kind: order.Step, Step: api.Step{Qty: qty, Price: c.price}}, c.sells*qty)
			for _, l := range [][]int{{qty}, {qty, 0, 0}, {0, qty}, {1, qty, 2}, {qty, qty, qty}, slices.Repeat([]int{qty}, 16), {-qty, qty}, {}, nil} {
				sum := 0
				for _, n := range l {
					sum += n
				}
				wantOwes(t, order.Ask{Kind: order.Block, Block: api.Block{Buy: true, Qty: l, Price: c.price}}, c.buys*sum)
				wantOwes(t, order.Ask{Kind: order.Block, Block: api.Block{Qty: l, Price: c.price}}, c.sells*sum)
			}
		}
	}
}

func TestP92OwesOfLines(t *testing.T) {
	g := wideGrid()
	for line, want := range map[string]int{
		"lock 1000000000":                 0,
		"cancel 1000":                     0,
		"step 1 0 0 buy 1000 3000":        3000000,
		"step 1 0 0 buy 1000 -500":        0,
		"step 1 0 0 buy 7 0":              0,
		"step 1 0 0 sell 1000 3000":       0,
		"step 1 0 0 sell 1000 -500":       500000,
		"step 1 0 0 sell 7 0":             0,
		"block 1 0 buy 50 1,2,3 0 0":      300,
		"block 1 0 buy -50 1,2,3 0 0":     0,
		"block 1 0 sell -5 3,0,1 0 0":     20,
		"block 1 0 sell 5 3,0,1 0 0":      0,
		"block 1 0 sell 0 3,0,1 0 0":      0,
		"block 9 2 buy 3 1000,0,999 8 9":  5997,
		"block 9 2 sell -1 0,0,1000 9 1":  1000,
		"block 9 2 buy 1 1000,1000,1 0 0": 2001,
	} {
		a, e := order.Parse("a", line, g)
		if e != api.OK {
			t.Errorf("Parse of %s: error %d", line, e)
		}
		wantOwes(t, a, want)
	}
}

// Beyond what is promised of Owes it still must end without a panic.
func TestP92OwesOfAnyNumbersEnds(t *testing.T) {
	for _, n := range []int{math.MinInt, math.MaxInt, -billion, billion} {
		for _, buy := range []bool{false, true} {
			order.Owes(order.Ask{Kind: order.Step, Step: api.Step{Buy: buy, Qty: n, Price: n}})
			order.Owes(order.Ask{Kind: order.Block, Block: api.Block{Buy: buy, Qty: slices.Repeat([]int{n}, 1000), Price: n}})
		}
	}
}

// inside tells whether a byte of the one text lies where one of the other's
// does.
func inside(a, b string) bool {
	from, other := uintptr(unsafe.Pointer(unsafe.StringData(a))), uintptr(unsafe.Pointer(unsafe.StringData(b)))
	return from < other+uintptr(len(b)) && other < from+uintptr(len(a))
}

func TestP91Memory(t *testing.T) {
	who, line := "participant", "block 2 1 sell -5 3,0,1 0 0"
	g := wideGrid()
	a, _ := order.Parse(who, line, g)
	b, _ := order.Parse(who, line, g)
	for i := range a.Block.Qty[:cap(a.Block.Qty)] {
		a.Block.Qty[:cap(a.Block.Qty)][i] = 9
	}
	if !slices.Equal(b.Block.Qty, []int{3, 0, 1}) {
		t.Errorf("two answers share memory: %v", b.Block.Qty)
	}
	s, _ := order.Parse(who, "step 1 0 0 buy 10 50", g)
	if inside(a.Block.Who, who) || inside(s.Step.Who, who) {
		t.Error("Who lies within what was handed in")
	}
	if !reflect.DeepEqual(g, wideGrid()) {
		t.Errorf("the grid that was handed in is %+v", g)
	}
}

// Neither a grid's lines nor what lies behind them is of any weight.
func TestP91TheLinesOfAGrid(t *testing.T) {
	room := []api.Line{{From: 7, To: 8, Cap: -9}, {From: 1, To: 2, Cap: 3}, {From: 4, To: 5, Cap: 6}}
	was := slices.Clone(room)
	for n := range 4 {
		g := wideGrid()
		g.Lines = room[:n]
		wantEither(t, "block 2 1 sell -5 3,0,1 0 0", g, api.OK)
		wantError(t, "step 1 3 0 buy 10 50", g, api.ErrZone)
	}
	if !slices.Equal(room, was) {
		t.Errorf("the lines that were handed in are %v", room)
	}
}

func TestP92Memory(t *testing.T) {
	room := []int{3, 0, 1, 77, 78}
	a := order.Ask{Kind: order.Block, Block: api.Block{Who: "a", Seq: 2, Zone: 1, Price: -5, Qty: room[:3]}}
	line := order.Print(a)
	owes := order.Owes(a)
	if !slices.Equal(room, []int{3, 0, 1, 77, 78}) || len(a.Block.Qty) != 3 {
		t.Errorf("what was handed in is %v", room)
	}
	for i := range room {
		room[i] = 9
	}
	if line != "block 2 1 sell -5 3,0,1 0 0" || owes != 20 {
		t.Errorf("printed %s, owes %d", shown(line), owes)
	}
}
