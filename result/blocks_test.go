package result_test

import (
	"math/big"
	"slices"
	"strings"
	"testing"

	"noonbell/api"
	"noonbell/result"
)

func wantLinked(t *testing.T, blocks []api.Block, accept []bool, is bool) {
	t.Helper()
	for range 2 {
		if result.Linked(blocks, accept) != is {
			t.Errorf("Linked of %+v, %v: %t", blocks, accept, !is)
		}
	}
}

// marks are what is accepted: an x each.
func marks(line string) []bool {
	var l []bool
	for _, r := range line {
		l = append(l, r == 'x')
	}
	return l
}

func inGroup(who string, seq, group int) api.Block {
	return api.Block{Who: who, Seq: seq, Group: group}
}

func TestP162Length(t *testing.T) {
	for many := range 5 {
		var blocks []api.Block
		for i := range many {
			blocks = append(blocks, inGroup("a", i+1, 0))
		}
		for n := range 8 {
			wantLinked(t, blocks, make([]bool, n), n == many)
			wantLinked(t, blocks, slices.Repeat([]bool{true}, n), n == many)
		}
	}
	wantLinked(t, nil, nil, true)
	wantLinked(t, nil, []bool{false}, false)
}

func TestP162Parents(t *testing.T) {
	two := []api.Block{child("a", 1, 0), child("a", 2, 1)}
	for line, is := range map[string]bool{"..": true, "x.": true, ".x": false, "xx": true} {
		wantLinked(t, two, marks(line), is)
	}
	// One that stands behind.
	behind := []api.Block{child("a", 1, 2), child("a", 2, 0)}
	for line, is := range map[string]bool{"..": true, "x.": false, ".x": true, "xx": true} {
		wantLinked(t, behind, marks(line), is)
	}
	// A parent's own parent, too.
	three := []api.Block{child("a", 1, 0), child("a", 2, 1), child("a", 3, 2)}
	for line, is := range map[string]bool{"...": true, "x..": true, "xx.": true, "xxx": true, "x.x": false, ".xx": false, "..x": false, ".x.": false} {
		wantLinked(t, three, marks(line), is)
	}
	// Of no block, of another participant's, of one of no name like it.
	wantLinked(t, []api.Block{child("a", 1, 7)}, marks("x"), false)
	wantLinked(t, []api.Block{child("a", 1, 7)}, marks("."), true)
	wantLinked(t, []api.Block{child("a", 1, 0), child("b", 2, 1)}, marks("xx"), false)
	wantLinked(t, []api.Block{child("a", 1, 0), child("b", 1, 0), child("b", 2, 1)}, marks("x.x"), false)
	wantLinked(t, []api.Block{child("a", 1, 0), child("b", 1, 0), child("b", 2, 1)}, marks(".xx"), true)
	wantLinked(t, []api.Block{child("a", 1, 0), child("aa", 1, 0), child("a", 2, 1)}, marks(".xx"), false)
	// None: 0 and below, also where one has that name.
	wantLinked(t, []api.Block{child("a", 0, 0), child("a", 1, 0)}, marks(".x"), true)
	wantLinked(t, []api.Block{child("a", -1, 0), child("a", 1, -1), child("a", 2, least)}, marks(".xx"), true)
}

// What Orders would refuse goes by the same words.
func TestP162OddNames(t *testing.T) {
	// One of itself, and two of one another.
	wantLinked(t, []api.Block{child("a", 1, 1)}, marks("x"), true)
	wantLinked(t, []api.Block{child("a", 1, 2), child("a", 2, 1)}, marks("xx"), true)
	wantLinked(t, []api.Block{child("a", 1, 2), child("a", 2, 1)}, marks("x."), false)
	// Two of one name: any of them.
	same := []api.Block{child("a", 1, 0), child("a", 1, 0), child("a", 2, 1)}
	for line, is := range map[string]bool{"..x": false, "x.x": true, ".xx": true, "xxx": true, "xx.": true} {
		wantLinked(t, same, marks(line), is)
	}
	wantLinked(t, []api.Block{child("", greatest, 0), child("", 1, greatest)}, marks("xx"), true)
}

func TestP162Groups(t *testing.T) {
	two := []api.Block{inGroup("a", 1, 1), inGroup("a", 2, 1)}
	for line, is := range map[string]bool{"..": true, "x.": true, ".x": true, "xx": false} {
		wantLinked(t, two, marks(line), is)
	}
	three := []api.Block{inGroup("a", 1, 5), inGroup("a", 2, 6), inGroup("a", 3, 5)}
	for line, is := range map[string]bool{"...": true, "xx.": true, ".xx": true, "x.x": false, "xxx": false} {
		wantLinked(t, three, marks(line), is)
	}
	// Of two participants: as many of one number as they like.
	wantLinked(t, []api.Block{inGroup("a", 1, 1), inGroup("b", 1, 1), inGroup("c", 2, 1)}, marks("xxx"), true)
	wantLinked(t, []api.Block{inGroup("a", 1, 1), inGroup("b", 1, 1), inGroup("a", 2, 1)}, marks("xxx"), false)
	wantLinked(t, []api.Block{inGroup("a", 1, 1), inGroup("b", 1, 1), inGroup("a", 2, 1)}, marks(".xx"), true)
	// None: 0 and below.
	for _, n := range []int{0, -1, -1000, least} {
		wantLinked(t, []api.Block{inGroup("a", 1, n), inGroup("a", 2, n), inGroup("a", 3, n)}, marks("xxx"), true)
	}
	wantLinked(t, []api.Block{inGroup("a", 1, greatest), inGroup("a", 2, greatest)}, marks("xx"), false)
	// A name and a group of one number have nothing in common.
	wantLinked(t, []api.Block{inGroup("a", 1, 2), inGroup("a", 2, 1)}, marks("xx"), true)
	wantLinked(t, []api.Block{{Who: "a", Seq: 5, Group: 1}, {Who: "a", Seq: 2, Parent: 1, Group: 2}}, marks("xx"), false)
	// A parent and its child in one group.
	both := []api.Block{{Who: "a", Seq: 1, Group: 3}, {Who: "a", Seq: 2, Parent: 1, Group: 3}}
	for line, is := range map[string]bool{"x.": true, ".x": false, "xx": false} {
		wantLinked(t, both, marks(line), is)
	}
}

func TestP162AgainstTheModel(t *testing.T) {
	r := draw(1)
	kept := 0
	for range 30000 {
		var blocks []api.Block
		var accept []bool
		for i := range r.IntN(6) {
			b := api.Block{Who: []string{"a", "b"}[r.IntN(2)], Seq: i + 1, Parent: max(0, r.IntN(12)-6), Group: max(-1, r.IntN(8)-4)}
			if r.IntN(9) == 0 {
				b.Seq = r.IntN(6)
			}
			blocks, accept = append(blocks, b), append(accept, r.IntN(2) == 0)
		}
		is := areLinked(blocks, accept)
		if is {
			kept++
		}
		wantLinked(t, blocks, accept, is)
	}
	if kept < 5000 || kept > 25000 {
		t.Errorf("%d are linked", kept)
	}
}

func TestP162Many(t *testing.T) {
	// Some thousand: each one's parent is the one ahead.
	var blocks []api.Block
	for i := range 5000 {
		blocks = append(blocks, api.Block{Who: "a", Seq: i + 1, Parent: i, Group: i + 1})
	}
	accept := slices.Repeat([]bool{true}, 5000)
	wantLinked(t, blocks, accept, true)
	accept[2500] = false
	wantLinked(t, blocks, accept, false)
}

// pricesOf are those of zone 1, where zone 0's are no numbers.
func pricesOf(line string) [][]string {
	var p [][]string
	for _, text := range strings.Fields(line) {
		p = append(p, []string{"x", text, ""})
	}
	return p
}

func wantSurplus(t *testing.T, b api.Block, p [][]string, text string, e api.Errno) {
	t.Helper()
	for range 2 {
		if got, gotE := result.Surplus(b, p); got != text || gotE != e {
			t.Errorf("Surplus of %+v, %q: %q, error %d; not %q, %d", b, p, got, gotE, text, e)
		}
	}
}

func TestP163Ordinary(t *testing.T) {
	for line, text := range map[string]string{
		"30 30 30":       "0",
		"31 30 30":       "2",
		"30 31 30":       "3",
		"30 30 31":       "5",
		"29 29 29":       "-10",
		"40 20 30":       "-10",
		"0 0 0":          "-300",
		"-500 -500 3000": "12200",
		"61/2 30 30":     "1",
		"30 92/3 30":     "2",
		"91/3 30 30":     "2/3",
		"30 30 181/6":    "5/6",
		"-1/2 -1/3 -1/5": "-303",
		"-1/7 30 30":     "-422/7",
	} {
		wantSurplus(t, gives("a", 1, 1, 30, 2, 3, 5), pricesOf(line), text, api.OK)
		// Who buys gains what the other loses.
		turned, _ := strings.CutPrefix(text, "-")
		if turned == text && text != "0" {
			turned = "-" + text
		}
		wantSurplus(t, takes("a", 1, 1, 30, 2, 3, 5), pricesOf(line), turned, api.OK)
	}
	// An hour of none.
	wantSurplus(t, gives("a", 1, 1, 7, 0, 1), pricesOf("3000 10"), "3", api.OK)
	wantSurplus(t, takes("a", 1, 1, -7, 1, 0), pricesOf("-10 3000"), "3", api.OK)
}

func TestP163Limits(t *testing.T) {
	for _, price := range []int{-100000, 100000} {
		for _, qty := range []int{-100000, -1, 0, 1, 100000} {
			for _, text := range []string{"-100000", "0", "100000", "123456789012345678901234567890", "-1/98765432109876543210"} {
				each, _ := new(big.Rat).SetString(text)
				each.Sub(each, bigOf(price)).Mul(each, bigOf(qty))
				all := new(big.Rat).Mul(each, bigOf(3))
				wantSurplus(t, gives("a", 1, 1, price, qty), pricesOf(text), each.RatString(), api.OK)
				wantSurplus(t, gives("a", 1, 1, price, qty, qty, qty), pricesOf(strings.Repeat(text+" ", 3)), all.RatString(), api.OK)
				wantSurplus(t, takes("a", 1, 1, price, qty), pricesOf(text), each.Neg(each).RatString(), api.OK)
			}
		}
	}
}

func TestP163Shape(t *testing.T) {
	b := gives("a", 1, 1, 30, 2, 3)
	for many := range 6 {
		p := pricesOf(strings.Repeat("31 ", many))
		if many != 2 {
			wantSurplus(t, b, p, "", api.ErrShape)
		}
	}
	// An hour without that zone.
	for hour := range 2 {
		for zones := range 5 {
			p := pricesOf("31 31")
			p[hour] = slices.Repeat([]string{"31"}, zones)
			if zones < 2 {
				wantSurplus(t, b, p, "", api.ErrShape)
			} else {
				wantSurplus(t, b, p, "5", api.OK)
			}
		}
	}
	for _, zone := range []int{least, -2, -1, 3, 4, greatest} {
		b.Zone = zone
		wantSurplus(t, b, pricesOf("31 31"), "", api.ErrShape)
	}
	// No hours at all: each of them has it, whichever it is.
	for _, zone := range []int{-1, 0, 1, greatest} {
		wantSurplus(t, api.Block{Zone: zone, Price: 5}, nil, "0", api.OK)
		wantSurplus(t, api.Block{Zone: zone, Buy: true, Qty: []int{}}, [][]string{}, "0", api.OK)
		wantSurplus(t, api.Block{Zone: zone}, [][]string{{}}, "", api.ErrShape)
	}
}

func TestP163Text(t *testing.T) {
	for _, text := range noNumbers() {
		for hour := range 2 {
			p := pricesOf("31 31")
			p[hour][1] = text
			wantSurplus(t, gives("a", 1, 1, 30, 2, 3), p, "", api.ErrText)
			// Also where there is nothing to be had.
			wantSurplus(t, gives("a", 1, 1, 30, 0, 3), p, "", api.ErrText)
			wantSurplus(t, gives("a", 1, 1, 30, 2, 0), p, "", api.ErrText)
			wantSurplus(t, takes("a", 1, 1, 30, 0, 0), p, "", api.ErrText)
		}
		// Other zones' may be what they like.
		wantSurplus(t, gives("a", 1, 1, 30, 1), [][]string{{text, "31", text}}, "1", api.OK)
	}
}

// Shapes are asked of all hours ahead of all texts.
func TestP163ShapeAheadOfText(t *testing.T) {
	b := gives("a", 1, 1, 30, 2, 3)
	wantSurplus(t, b, pricesOf("x"), "", api.ErrShape)
	wantSurplus(t, b, pricesOf("x x x"), "", api.ErrShape)
	wantSurplus(t, b, [][]string{{"x", "x"}, {"1"}}, "", api.ErrShape)
	wantSurplus(t, b, [][]string{{"1"}, {"x", "x"}}, "", api.ErrShape)
	b.Zone = -1
	wantSurplus(t, b, pricesOf("x x"), "", api.ErrShape)
}

func TestP163AgainstTheModel(t *testing.T) {
	r := draw(2)
	for range 5000 {
		b := api.Block{Zone: r.IntN(3), Buy: r.IntN(2) == 0, Price: r.near(100000)}
		var p [][]*big.Rat
		var texts [][]string
		for range r.IntN(6) {
			b.Qty = append(b.Qty, r.near(100000))
			var l []*big.Rat
			var hour []string
			for range 3 {
				n := r.fraction(1000000)
				l, hour = append(l, n), append(hour, n.RatString())
			}
			p, texts = append(p, l), append(texts, hour)
		}
		wantSurplus(t, b, texts, surplus(b, p).RatString(), api.OK)
	}
}

// Hours whose prices have nothing in common: one by one it would take long.
func TestP163Many(t *testing.T) {
	b := api.Block{Price: 7}
	var p [][]*big.Rat
	var texts [][]string
	for n := int64(1009); len(p) < 1000; n += 2 {
		if big.NewInt(n).ProbablyPrime(0) {
			price := big.NewRat(int64(len(p))-500, n)
			b.Qty = append(b.Qty, len(p)+1)
			p, texts = append(p, []*big.Rat{price}), append(texts, []string{price.RatString()})
		}
	}
	wantSurplus(t, b, texts, surplus(b, p).RatString(), api.OK)
}

// noNumbers are texts that are no number's.
func noNumbers() []string {
	return []string{"", "x", " 1", "1 ", "+1", "-0", "01", "1.5", "1/1", "2/4", "0/2", "1/0", "1/-2", "--1", "/2", "1/", "1e3", "½", "1\x00"}
}
