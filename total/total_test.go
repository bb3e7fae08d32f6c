package total_test

import (
	"math/big"
	"math/rand/v2"
	"testing"

	"noonbell/api"
	"noonbell/rat"
	"noonbell/total"
)

// wantSum holds the sum against that by the library's fractions.
func wantSum(t *testing.T, l []*big.Rat) {
	t.Helper()
	want := new(big.Rat)
	var all []rat.Rat
	for _, n := range l {
		want.Add(want, n)
		one, e := rat.Parse(n.RatString())
		if e != api.OK {
			t.Fatal(n, e)
		}
		all = append(all, one)
	}
	if got := total.Of(all).Text(); got != want.RatString() {
		t.Errorf("of %v: %s, not %s", l, got, want.RatString())
	}
	for i, n := range all {
		if n.Text() != l[i].RatString() {
			t.Errorf("of %v: number %d is %s now", l, i, n.Text())
		}
	}
}

func TestOf(t *testing.T) {
	wantSum(t, nil)
	r := rand.New(rand.NewPCG(16, 1))
	for many := range 40 {
		for range 20 {
			var l []*big.Rat
			for range many {
				l = append(l, big.NewRat(r.Int64N(2001)-1000, 1+r.Int64N([]int64{1, 12, 1000}[r.IntN(3)])))
			}
			wantSum(t, l)
		}
	}
}

// One by one it would take half a minute.
func TestOfMany(t *testing.T) {
	var l []*big.Rat
	for n := int64(1_000_000_007); len(l) < 1000; n += 2 {
		if big.NewInt(n).ProbablyPrime(0) {
			l = append(l, big.NewRat(int64(len(l)+1), n))
		}
	}
	wantSum(t, l)
}
