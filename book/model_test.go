package book_test

import (
	"fmt"
	"math/rand/v2"
	"reflect"
	"sort"
	"testing"

	"noonbell/api"
	"noonbell/book"
	"noonbell/order"
)

// model is the chapter by another way than the program's: it has each
// participant's Adds that were OK, and works all out anew from these.
type model map[string][]order.Ask

func isOrder(a order.Ask) bool { return a.Kind == order.Step || a.Kind == order.Block }

func seqOther(a order.Ask) int {
	if a.Kind == order.Block {
		return a.Block.Seq
	}
	return a.Step.Seq
}

// lives are the orders that no later ask cancels.
func lives(l []order.Ask) (live []order.Ask) {
	for i, a := range l {
		gone := !isOrder(a)
		for _, later := range l[i+1:] {
			gone = gone || later.Kind == order.Cancel && later.Seq == seqOther(a)
		}
		if !gone {
			live = append(live, a)
		}
	}
	return live
}

// oneOf is what is told of the one whose asks these are.
func oneOf(l []order.Ask) one {
	x := one{asks: len(l)}
	for _, a := range l {
		if a.Kind == order.Lock {
			x.locked += a.Cents
		}
	}
	for _, a := range lives(l) {
		x.owes += order.Owes(a)
	}
	return x
}

// orderError is that of a step or block behind l.
func orderError(l []order.Ask, a order.Ask) api.Errno {
	had, many, parent := false, 0, a.Kind == order.Step || a.Block.Parent <= 0
	for _, x := range l {
		had = had || isOrder(x) && seqOther(x) == seqOther(a)
	}
	for _, x := range lives(l) {
		if x.Kind == a.Kind {
			many++
		}
		parent = parent || x.Kind == order.Block && x.Block.Seq == a.Block.Parent
	}
	switch x := oneOf(l); {
	case had:
		return api.ErrTwice
	case a.Kind == order.Step && many == 8 || a.Kind == order.Block && many == 3:
		return api.ErrQuota
	case !parent:
		return api.ErrParent
	case x.owes+order.Owes(a) > x.locked:
		return api.ErrCollateral
	}
	return api.OK
}

func cancelError(l []order.Ask, seq int) api.Errno {
	there, parent := false, false
	for _, x := range lives(l) {
		there = there || seqOther(x) == seq
		parent = parent || x.Kind == order.Block && x.Block.Parent > 0 && x.Block.Parent == seq
	}
	switch {
	case !there:
		return api.ErrNone
	case parent:
		return api.ErrParent
	}
	return api.OK
}

func (m model) add(who string, a order.Ask) api.Errno {
	l, e := m[who], api.OK
	switch {
	case a.Kind < 1 || a.Kind > 4:
		return api.ErrArg
	case len(l) == 24:
		return api.ErrQuota
	case a.Kind == order.Lock && (a.Cents <= 0 || a.Cents > billion):
		return api.ErrArg
	case a.Kind == order.Cancel:
		e = cancelError(l, a.Seq)
	case isOrder(a):
		e = orderError(l, a)
	}
	if e == api.OK {
		m[who] = append(l, a)
	}
	return e
}

// tell is all that a book of these Adds tells.
func (m model) tell(others ...string) told {
	x := told{of: map[string]one{}}
	for who, l := range m {
		x.who = append(x.who, who)
		for _, a := range lives(l) {
			if a.Kind == order.Step {
				s := a.Step
				s.Who = who
				x.steps = append(x.steps, s)
			} else {
				k := a.Block
				k.Who = who
				x.blocks = append(x.blocks, k)
			}
		}
		x.of[who] = oneOf(l)
	}
	for _, who := range others {
		x.of[who] = oneOf(m[who])
	}
	s, k := x.steps, x.blocks
	sort.Strings(x.who)
	sort.Slice(s, func(i, j int) bool { return s[i].Who < s[j].Who || s[i].Who == s[j].Who && s[i].Seq < s[j].Seq })
	sort.Slice(k, func(i, j int) bool { return k[i].Who < k[j].Who || k[i].Who == k[j].Who && k[i].Seq < k[j].Seq })
	return x
}

func pick[T any](source *rand.Rand, l ...T) T {
	return l[source.IntN(len(l))]
}

// someAsk fills all that an ask has, whatever its kind.
func someAsk(source *rand.Rand, seqs int) order.Ask {
	a := order.Ask{
		Kind:  pick(source, 1, 2, 2, 2, 2, 3, 3, 3, 3, 4, 4, 4),
		Cents: pick(source, 1, 30, 100, 100, 400),
		Seq:   source.IntN(seqs),
		Step: api.Step{
			Who: pick(source, "a", "b", ""), Seq: source.IntN(seqs), Zone: source.IntN(3), Hour: source.IntN(3),
			Buy: source.IntN(2) == 0, Qty: source.IntN(5), Price: source.IntN(41) - 20,
		},
		Block: api.Block{
			Who: pick(source, "a", "b", ""), Seq: source.IntN(seqs), Zone: source.IntN(3), Buy: source.IntN(2) == 0,
			Price: source.IntN(41) - 20, Group: source.IntN(3), Parent: pick(source, 0, 0, source.IntN(seqs), source.IntN(seqs), -1),
			Qty: []int{source.IntN(3), source.IntN(3), source.IntN(3)},
		},
	}
	switch source.IntN(60) {
	case 0:
		a.Kind = pick(source, 0, 5, -1)
	case 1:
		a.Cents = pick(source, 0, -1, billion+1)
	case 2:
		a.Step.Qty, a.Block.Qty[0] = -2, -9
	case 3:
		a.Seq, a.Step.Seq, a.Block.Seq = -1, -1, -1
	}
	return a
}

// Drawn Adds of a few participants: each answer, and all that is told behind
// it, is the model's. With few Seqs cancels find something, with many the
// quotas are come to.
func TestP101ToP103AgainstTheModel(t *testing.T) {
	seen := map[string]int{}
	for seed := range uint64(150) {
		source := rand.New(rand.NewPCG(seed, 10))
		b, m, seqs := book.New(), model{}, pick(source, 6, 12, 40)
		for range 200 {
			who, a := pick(source, "a", "a", "ab", "β", ""), someAsk(source, seqs)
			may, got, want := b.May(who, a), b.Add(who, a), m.add(who, a)
			if may != want || got != want {
				t.Fatalf("seed %d: %q, %+v: May %d, Add %d, not %d; behind %+v", seed, who, a, may, got, want, m[who])
			}
			if x, y := tellOf(b, who), m.tell(who); !reflect.DeepEqual(x, y) {
				t.Fatalf("seed %d: behind %q, %+v: %+v, not %+v", seed, who, a, x, y)
			}
			seen[fmt.Sprint("kind ", a.Kind, ": error ", want)]++
		}
	}
	for _, what := range []string{
		"kind 0: error 1", "kind 5: error 1", "kind -1: error 1",
		"kind 1: error 0", "kind 1: error 1", "kind 1: error 101",
		"kind 2: error 0", "kind 2: error 100", "kind 2: error 101", "kind 2: error 221",
		"kind 3: error 0", "kind 3: error 100", "kind 3: error 101", "kind 3: error 103", "kind 3: error 221",
		"kind 4: error 0", "kind 4: error 101", "kind 4: error 102", "kind 4: error 103",
	} {
		if seen[what] < 20 {
			t.Errorf("%s came %d times", what, seen[what])
		}
	}
}

// Nobody owes more than is locked, of orders whose Qty are at least 0; and
// each answer is that of a book with the one's own Adds alone.
func TestP104NobodyOwesMoreThanIsLocked(t *testing.T) {
	owed := 0
	for seed := range uint64(200) {
		source, b, alone := rand.New(rand.NewPCG(seed, 11)), book.New(), map[string]*book.Book{}
		for range 200 {
			who, a := pick(source, "a", "b", "c"), someAsk(source, 30)
			a.Step.Qty, a.Block.Qty[0] = max(a.Step.Qty, 0), max(a.Block.Qty[0], 0)
			if alone[who] == nil {
				alone[who] = book.New()
			}
			if got, want := b.Add(who, a), alone[who].Add(who, a); got != want {
				t.Fatalf("seed %d: %q, %+v: error %d, alone %d", seed, who, a, got, want)
			}
			is, was := toldOf(b, who), toldOf(alone[who], who)
			if is != was || is.owes > is.locked || is.owes < 0 {
				t.Fatalf("seed %d: behind %q, %+v: %+v, alone %+v", seed, who, a, is, was)
			}
			owed = max(owed, is.owes)
		}
	}
	if owed < 100 {
		t.Errorf("nobody owed more than %d", owed)
	}
}
