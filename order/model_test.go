package order_test

import (
	"fmt"
	"math/rand/v2"
	"regexp"
	"strconv"
	"strings"
	"testing"

	"noonbell/api"
	"noonbell/order"
)

// The chapter by another way than the program's: by patterns, by the table of
// the lines as it stands there, and by the library's scanning.
var (
	allowed  = regexp.MustCompile(`^[a-z\x{3B1}-\x{3C9}0-9, \-]*$`)
	spaced   = regexp.MustCompile(`^[^ ]+( [^ ]+)*$`)
	decimals = regexp.MustCompile(`^(0|-?[1-9][0-9]*)$`)
	table    = map[string]string{
		"lock":   "CENTS",
		"step":   "SEQ ZONE HOUR SIDE QTY PRICE",
		"block":  "SEQ ZONE SIDE PRICE QTYS PARENT GROUP",
		"cancel": "SEQ",
	}
)

func isNumber(w string) bool {
	n, err := strconv.Atoi(w)
	return decimals.MatchString(w) && err == nil && n >= -billion && n <= billion
}

// bounds are a field's least and greatest number, and the error of one beyond.
func bounds(field string, g api.Grid) (low, high int, beyond api.Errno) {
	switch field {
	case "CENTS":
		return 1, billion, api.ErrNumber
	case "SEQ":
		return 1, 1000, api.ErrNumber
	case "PARENT":
		return 0, 1000, api.ErrNumber
	case "GROUP":
		return 0, 9, api.ErrNumber
	case "ZONE":
		return 0, g.Zones - 1, api.ErrZone
	case "HOUR":
		return 0, g.Hours - 1, api.ErrHour
	case "QTY":
		return 1, 1000, api.ErrQty
	}
	return g.Low, g.High, api.ErrPrice
}

func qtysOther(w string, g api.Grid) api.Errno {
	texts := strings.Split(w, ",")
	sum, bad := 0, false
	for _, text := range texts {
		if !isNumber(text) {
			return api.ErrNumber
		}
		n, _ := strconv.Atoi(text)
		sum += n
		bad = bad || n < 0 || n > 1000
	}
	switch {
	case len(texts) > 16:
		return api.ErrNumber
	case len(texts) != g.Hours:
		return api.ErrField
	case bad || sum == 0:
		return api.ErrQty
	}
	return api.OK
}

func fieldOther(field, w string, g api.Grid) api.Errno {
	switch {
	case field == "SIDE" && w != "buy" && w != "sell":
		return api.ErrField
	case field == "SIDE":
		return api.OK
	case field == "QTYS":
		return qtysOther(w, g)
	case !isNumber(w):
		return api.ErrNumber
	}
	low, high, beyond := bounds(field, g)
	if n, _ := strconv.Atoi(w); n < low || n > high {
		return beyond
	}
	return api.OK
}

func errorOther(line string, g api.Grid) api.Errno {
	words := strings.Split(line, " ")
	names, known := table[words[0]]
	switch {
	case len(line) > 200:
		return api.ErrSize
	case !allowed.MatchString(line):
		return api.ErrRune
	case !spaced.MatchString(line):
		return api.ErrWord
	case len(words) > 16:
		return api.ErrMany
	case !known:
		return api.ErrVerb
	case len(words) != 1+len(strings.Fields(names)):
		return api.ErrField
	}
	for i, field := range strings.Fields(names) {
		if e := fieldOther(field, words[1+i], g); e != api.OK {
			return e
		}
	}
	return api.OK
}

// askOther is the ask of a line that is right.
func askOther(who, line string) order.Ask {
	var a order.Ask
	var side, qtys string
	s, b := &a.Step, &a.Block
	switch line[:2] {
	case "lo":
		a.Kind = order.Lock
		fmt.Sscanf(line, "lock %d", &a.Cents)
	case "ca":
		a.Kind = order.Cancel
		fmt.Sscanf(line, "cancel %d", &a.Seq)
	case "st":
		a.Kind, s.Who = order.Step, who
		fmt.Sscanf(line, "step %d %d %d %s %d %d", &s.Seq, &s.Zone, &s.Hour, &side, &s.Qty, &s.Price)
		s.Buy = side == "buy"
	case "bl":
		a.Kind, b.Who = order.Block, who
		fmt.Sscanf(line, "block %d %d %s %d %s %d %d", &b.Seq, &b.Zone, &side, &b.Price, &qtys, &b.Parent, &b.Group)
		b.Buy = side == "buy"
		for _, text := range strings.Split(qtys, ",") {
			n, _ := strconv.Atoi(text)
			b.Qty = append(b.Qty, n)
		}
	}
	return a
}

func owesOther(a order.Ask) int {
	buy, price, qtys := a.Step.Buy, a.Step.Price, []int{a.Step.Qty}
	if a.Kind == order.Block {
		buy, price, qtys = a.Block.Buy, a.Block.Price, a.Block.Qty
	}
	owes := 0
	for _, qty := range qtys {
		if buy && price > 0 {
			owes += price * qty
		}
		if !buy && price < 0 {
			owes -= price * qty
		}
	}
	return owes
}

// wantOther holds Parse, Print and Owes against the other way, and tells the
// error.
func wantOther(t *testing.T, who, line string, g api.Grid) api.Errno {
	t.Helper()
	e := errorOther(line, g)
	if e != api.OK {
		wantError(t, line, g, e)
		return e
	}
	a := askOther(who, line)
	wantAsk(t, who, line, g, a)
	wantOwes(t, a, owesOther(a))
	return e
}

func pick(source *rand.Rand, l ...string) string {
	return l[source.IntN(len(l))]
}

// someField is mostly right in a grid of two zones and hours.
func someField(source *rand.Rand, field string) string {
	if source.IntN(40) == 0 {
		return pick(source, "0", "1", "-1", "2", "1001", "x", "buy", "-0", "1,1", "3,", "1000000001", "α", "1000000000", "10", "00")
	}
	switch field {
	case "CENTS":
		return pick(source, "1", "300", "1000000000")
	case "SEQ":
		return pick(source, "1", "2", "17", "999", "1000", "1000", "0")
	case "PARENT":
		return pick(source, "0", "0", "1", "1000", "1000", "-1")
	case "GROUP":
		return pick(source, "0", "0", "1", "9", "9", "10")
	case "ZONE", "HOUR":
		return pick(source, "0", "0", "1", "1", "1", "2", "-1")
	case "SIDE":
		return pick(source, "buy", "sell", "buy", "sell", "bye")
	case "QTY":
		return pick(source, "1", "5", "20", "999", "1000", "0", "1001")
	case "QTYS":
		return pick(source, "0", "5", "1000", "-1", "7", "300", "1") + pick(source, ",0", ",1", ",1000", ",1001", "", ",9,9", ",3", ",4", ",")
	}
	return pick(source, "-500", "-501", "0", "1", "-1", "50", "-77", "2999", "3000", "3001")
}

func someLine(source *rand.Rand) string {
	verb := pick(source, "lock", "step", "step", "step", "block", "block", "block", "block", "cancel", "ask")
	words := []string{verb}
	for _, field := range strings.Fields(table[verb]) {
		words = append(words, someField(source, field))
	}
	switch source.IntN(30) {
	case 0:
		words = words[:len(words)-1]
	case 1:
		words = append(words, "0")
	case 2:
		words = append(words, strings.Fields(strings.Repeat("1 ", 1+source.IntN(14)))...)
	}
	line := strings.Join(words, " ")
	if source.IntN(20) == 0 {
		return line + pick(source, " ", "A", "  1", "\xff", strings.Repeat("1", 200), strings.Repeat(" 1", 16))
	}
	return line
}

func TestP91ToP93AgainstTheTable(t *testing.T) {
	g := api.Grid{Zones: 2, Hours: 2, Low: -500, High: 3000}
	source, seen := rand.New(rand.NewPCG(9, 1)), map[api.Errno]int{}
	for range 60000 {
		seen[wantOther(t, pick(source, "a", "b", "αβ", ""), someLine(source), g)]++
	}
	for _, e := range []api.Errno{
		api.OK, api.ErrSize, api.ErrRune, api.ErrWord, api.ErrMany, api.ErrVerb, api.ErrField,
		api.ErrNumber, api.ErrZone, api.ErrHour, api.ErrQty, api.ErrPrice,
	} {
		if seen[e] < 200 {
			t.Errorf("error %d came %d times", e, seen[e])
		}
	}
}

// Lines that are right, with one byte changed, left out or put in.
func TestP91ToP93LinesBesideRightOnes(t *testing.T) {
	g := api.Grid{Zones: 3, Hours: 3, Low: -500, High: 3000}
	for _, words := range goodLines() {
		line := strings.Join(words, " ")
		for i := range len(line) + 1 {
			for _, c := range []string{"", "0", "1", "9", "-", ",", " ", "a", "l", "A", "α", "\xce"} {
				wantOther(t, "a", line[:i]+c+line[i:], g)
				if i < len(line) {
					wantOther(t, "a", line[:i]+c+line[i+1:], g)
				}
			}
		}
	}
}

// All steps and blocks of a few numbers, in grids of all sizes: what is printed
// is parsed as the same, and the other way round.
func TestP93WhatIsPrintedIsParsed(t *testing.T) {
	for zones := 1; zones <= api.MaxZones; zones++ {
		for hours := 1; hours <= api.MaxHours; hours++ {
			g := api.Grid{Zones: zones, Hours: hours, Low: -api.MaxPrice, High: api.MaxPrice}
			for _, price := range []int{-api.MaxPrice, -1, 0, 1, api.MaxPrice} {
				for _, qty := range []int{1, 999, api.MaxQty} {
					for i := range 2 * zones * hours {
						zone, hour, buy := i/2%zones, i/2/zones, i%2 == 0
						step := api.Step{Who: "a", Seq: 1 + i, Zone: zone, Hour: hour, Buy: buy, Qty: qty, Price: price}
						qtys := make([]int, hours)
						qtys[hour] = qty
						block := api.Block{Who: "a", Seq: 1000 - i, Zone: zone, Buy: buy, Price: price, Qty: qtys, Parent: 999 * (i % 2), Group: i % 10}
						for _, a := range []order.Ask{{Kind: order.Step, Step: step}, {Kind: order.Block, Block: block}} {
							wantAsk(t, "a", order.Print(a), g, a)
							wantOwes(t, a, owesOther(a))
						}
					}
				}
			}
		}
	}
}
