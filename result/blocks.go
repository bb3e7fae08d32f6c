package result

import (
	"noonbell/api"
	"noonbell/rat"
	"noonbell/total"
)

// Linked tells whether each accepted block's parent is accepted, too, and of
// each group one at most is.
func Linked(blocks []api.Block, accept []bool) bool {
	if len(accept) != len(blocks) {
		return false
	}
	names, groups := map[name]int{}, map[name]int{}
	for i, b := range blocks {
		if accept[i] {
			names[blockName(b)]++
			groups[groupName(b)]++
		}
	}
	for i, b := range blocks {
		if accept[i] && (b.Parent > 0 && names[parentName(b)] == 0 || b.Group > 0 && groups[groupName(b)] > 1) {
			return false
		}
	}
	return true
}

// Surplus answers what the block gains, if it is accepted at the prices p, hour
// by hour and zone by zone.
func Surplus(b api.Block, p [][]string) (string, api.Errno) {
	if len(p) != len(b.Qty) {
		return "", api.ErrShape
	}
	for _, zones := range p {
		if !isAmong(b.Zone, len(zones)) {
			return "", api.ErrShape
		}
	}
	var gains []rat.Rat
	for hour, qty := range b.Qty {
		price, e := rat.Parse(p[hour][b.Zone])
		if e != api.OK {
			return "", api.ErrText
		}
		gains = append(gains, gain(b.Buy, b.Price, price).Mul(rat.Of(qty)))
	}
	return total.Of(gains).Text(), api.OK
}

// gain is what each of an order brings at the price: how much better that is
// than the order's own.
func gain(buy bool, own int, price rat.Rat) rat.Rat {
	if buy {
		return rat.Of(own).Sub(price)
	}
	return price.Sub(rat.Of(own))
}
