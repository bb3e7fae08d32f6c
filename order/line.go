package order

import (
	"strconv"
	"strings"

	"noonbell/api"
)

// The words that lines begin with.
const (
	lockVerb   = "lock"
	stepVerb   = "step"
	blockVerb  = "block"
	cancelVerb = "cancel"
)

// mostCents is how much may be locked by one line.
const mostCents = 1_000_000_000

// mostGroup is the greatest number of a group.
const mostGroup = 9

// line is a kind of line: behind it stands a struct that embeds what the
// line's fields fill.
type line interface {
	fill(f *fields)
	ask(who string) Ask
	words() []string
}

type (
	lockLine   struct{ Ask }
	stepLine   struct{ api.Step }
	blockLine  struct{ api.Block }
	cancelLine struct{ Ask }
)

// kindOf tells the kind of the lines that begin with the verb; 0, if there are
// none.
func kindOf(verb string) int {
	switch verb {
	case lockVerb:
		return Lock
	case stepVerb:
		return Step
	case blockVerb:
		return Block
	case cancelVerb:
		return Cancel
	}
	return 0
}

// lineOf is a's line; nil, if a's Kind is none.
func lineOf(a Ask) line {
	switch a.Kind {
	case Lock:
		return &lockLine{a}
	case Step:
		return &stepLine{a.Step}
	case Block:
		return &blockLine{a.Block}
	case Cancel:
		return &cancelLine{a}
	}
	return nil
}

// costOf is how many cents l may cost at most: only what is bought or sold
// costs anything.
func costOf(l line) int {
	if s, is := l.(*stepLine); is {
		return dearest(s.Buy, s.Price, s.Qty)
	}
	if b, is := l.(*blockLine); is {
		return dearest(b.Buy, b.Price, sum(b.Qty))
	}
	return 0
}

func (l *lockLine) fill(f *fields) {
	l.Cents = f.number(1, mostCents, api.ErrNumber)
}

func (l *lockLine) ask(string) Ask {
	return Ask{Kind: Lock, Cents: l.Cents}
}

func (l *lockLine) words() []string {
	return []string{lockVerb, strconv.Itoa(l.Cents)}
}

func (l *stepLine) fill(f *fields) {
	l.Seq = f.number(1, api.MaxSeq, api.ErrNumber)
	l.Zone = f.place(f.grid.Zones, api.ErrZone)
	l.Hour = f.place(f.grid.Hours, api.ErrHour)
	l.Buy = f.side()
	l.Qty = f.number(1, api.MaxQty, api.ErrQty)
	l.Price = f.number(f.grid.Low, f.grid.High, api.ErrPrice)
}

func (l *stepLine) ask(who string) Ask {
	// An answer is new memory.
	l.Who = strings.Clone(who)
	return Ask{Kind: Step, Step: l.Step}
}

func (l *stepLine) words() []string {
	return []string{
		stepVerb, strconv.Itoa(l.Seq), strconv.Itoa(l.Zone), strconv.Itoa(l.Hour),
		sideText(l.Buy), strconv.Itoa(l.Qty), strconv.Itoa(l.Price),
	}
}

func (l *blockLine) fill(f *fields) {
	l.Seq = f.number(1, api.MaxSeq, api.ErrNumber)
	l.Zone = f.place(f.grid.Zones, api.ErrZone)
	l.Buy = f.side()
	l.Price = f.number(f.grid.Low, f.grid.High, api.ErrPrice)
	l.Qty = f.quantities()
	l.Parent = f.number(0, api.MaxSeq, api.ErrNumber)
	l.Group = f.number(0, mostGroup, api.ErrNumber)
}

func (l *blockLine) ask(who string) Ask {
	// An answer is new memory.
	l.Who = strings.Clone(who)
	return Ask{Kind: Block, Block: l.Block}
}

func (l *blockLine) words() []string {
	return []string{
		blockVerb, strconv.Itoa(l.Seq), strconv.Itoa(l.Zone), sideText(l.Buy), strconv.Itoa(l.Price),
		quantitiesText(l.Qty), strconv.Itoa(l.Parent), strconv.Itoa(l.Group),
	}
}

func (l *cancelLine) fill(f *fields) {
	l.Seq = f.number(1, api.MaxSeq, api.ErrNumber)
}

func (l *cancelLine) ask(string) Ask {
	return Ask{Kind: Cancel, Seq: l.Seq}
}

func (l *cancelLine) words() []string {
	return []string{cancelVerb, strconv.Itoa(l.Seq)}
}

// dearest is what so much may cost at most: who buys pays a price above 0, who
// sells one below 0.
func dearest(buy bool, price, qty int) int {
	if !buy {
		price = -price
	}
	return max(price, 0) * qty
}

func sum(l []int) int {
	all := 0
	for _, n := range l {
		all += n
	}
	return all
}
