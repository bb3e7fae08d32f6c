package book

import (
	"slices"

	"noonbell/api"
	"noonbell/order"
)

// mostCents is how much may be locked at once.
const mostCents = 1_000_000_000

// May answers what Add would, and changes nothing.
func (b *Book) May(who string, a order.Ask) api.Errno {
	if a.Kind < order.Lock || a.Kind > order.Cancel {
		return api.ErrArg
	}
	if b.Asks(who) >= api.MaxAsks {
		return api.ErrQuota
	}
	switch a.Kind {
	case order.Lock:
		return mayLock(a.Cents)
	case order.Cancel:
		return b.mayCancel(who, a.Seq)
	}
	return b.mayOrder(who, a)
}

func mayLock(cents int) api.Errno {
	if cents < 1 || cents > mostCents {
		return api.ErrArg
	}
	return api.OK
}

// mayOrder is of a step or block.
func (b *Book) mayOrder(who string, a order.Ask) api.Errno {
	parent := parentOf(a)
	switch {
	case b.had(who, seqOf(a)):
		return api.ErrTwice
	case b.count(who, a.Kind) >= mostOf(a.Kind):
		return api.ErrQuota
	case parent > 0 && !b.hasBlock(who, parent):
		return api.ErrParent
	case b.Owes(who)+order.Owes(a) > b.Locked(who):
		return api.ErrCollateral
	}
	return api.OK
}

func (b *Book) mayCancel(who string, seq int) api.Errno {
	if _, lives := b.live[key{who, seq}]; !lives {
		return api.ErrNone
	}
	if b.isParent(who, seq) {
		return api.ErrParent
	}
	return api.OK
}

// had tells whether an order of who has, or had, that Seq.
func (b *Book) had(who string, seq int) bool {
	_, is := slices.BinarySearch(b.accounts[who].seqs, seq)
	return is
}

// hasBlock tells whether a block of who with that Seq lives.
func (b *Book) hasBlock(who string, seq int) bool {
	a, lives := b.live[key{who, seq}]
	return lives && a.Kind == order.Block
}

// isParent tells whether a block of who lives whose Parent has that Seq. An
// order may have a Seq that is not above 0, which as a Parent is none.
func (b *Book) isParent(who string, seq int) bool {
	return seq > 0 && slices.ContainsFunc(b.ordersOf(who), func(a order.Ask) bool {
		return parentOf(a) == seq
	})
}

// count is how many orders of who that live are of the kind.
func (b *Book) count(who string, kind int) int {
	n := 0
	for _, a := range b.ordersOf(who) {
		if a.Kind == kind {
			n++
		}
	}
	return n
}

// mostOf is how many orders of the kind may live, of one participant.
func mostOf(kind int) int {
	if kind == order.Step {
		return api.MaxSteps
	}
	return api.MaxBlocks
}

// parentOf is a's Parent; if it is not above 0, a has none.
func parentOf(a order.Ask) int {
	if a.Kind == order.Block {
		return a.Block.Parent
	}
	return 0
}
