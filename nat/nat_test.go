package nat_test

import (
	"math"
	"math/big"
	"math/rand/v2"
	"strings"
	"testing"

	"noonbell/api"
	"noonbell/nat"
)

// of reads a number, and fails the test if its text is refused or comes back
// as another one.
func of(t *testing.T, s string) nat.Nat {
	t.Helper()
	n, e := nat.Parse(s)
	if e != api.OK || n.Text() != s {
		t.Fatalf("Parse(%q): %q, error %d", s, n.Text(), e)
	}
	return n
}

func want(t *testing.T, what string, got nat.Nat, text string) {
	t.Helper()
	if got.Text() != text {
		t.Errorf("%s: %s, not %s", what, got.Text(), text)
	}
}

// edges are numbers where limbs, words and chunks of digits begin and end,
// with and without noughts within.
func edges() []*big.Int {
	one := big.NewInt(1)
	found := []*big.Int{new(big.Int)}
	for _, bits := range []uint{0, 1, 3, 31, 32, 33, 63, 64, 65, 95, 96, 127, 128, 129, 160, 256} {
		power := new(big.Int).Lsh(one, bits)
		found = append(found, power, new(big.Int).Sub(power, one), new(big.Int).Add(power, one))
	}
	for _, digits := range []int64{1, 8, 9, 10, 18, 19, 20, 27, 40} {
		power := new(big.Int).Exp(big.NewInt(10), big.NewInt(digits), nil)
		found = append(found, power, new(big.Int).Sub(power, one))
	}
	return found
}

// patterns are all numbers of up to four limbs, each of them one of those at
// which a digit of a quotient is guessed wrong most easily.
func patterns() []*big.Int {
	limbs := []int64{0, 1, 1 << 31, 1<<31 - 1, math.MaxUint32}
	found := []*big.Int{new(big.Int)}
	for begin := 0; len(found) < 5*5*5*5; {
		end := len(found)
		for _, n := range found[begin:end] {
			for _, limb := range limbs {
				if n.Sign() == 0 && limb == 0 {
					continue
				}
				longer := new(big.Int).Lsh(n, 32)
				found = append(found, longer.Add(longer, big.NewInt(limb)))
			}
		}
		begin = end
	}
	return found
}

// several are numbers of up to so many bits, always the same ones.
func several(count, bits int) []*big.Int {
	source := rand.New(rand.NewPCG(1, 1))
	var found []*big.Int
	for range count {
		n := new(big.Int)
		for range 1 + source.IntN(bits/64) {
			n.Lsh(n, 64).Add(n, new(big.Int).SetUint64(source.Uint64()))
		}
		found = append(found, n.Rsh(n, uint(source.IntN(64))))
	}
	return found
}

func TestP11OfAndText(t *testing.T) {
	for _, n := range []uint64{0, 1, 9, 10, 999999999, 1000000000, math.MaxUint32, 1 << 32, 1<<32 + 1, 1000000000000000000, math.MaxUint64 - 1, math.MaxUint64} {
		want(t, "Of", nat.Of(n), new(big.Int).SetUint64(n).String())
	}
	var zero nat.Nat
	want(t, "the zero Nat", zero, "0")
}

func TestP11Parse(t *testing.T) {
	for _, n := range append(edges(), patterns()...) {
		of(t, n.String())
	}
	for _, length := range []int{8, 9, 10, 17, 18, 19, 1000, 3001} {
		of(t, strings.Repeat("9", length))
		of(t, "1"+strings.Repeat("0", length))
		of(t, "1"+strings.Repeat("0", length)+"1")
	}
	if of(t, "18446744073709551616").Cmp(nat.Of(math.MaxUint64).Add(nat.Of(1))) != 0 {
		t.Error("2^64")
	}
}

func TestP11ParseRefuses(t *testing.T) {
	wrong := []string{
		"", "00", "007", "01", "-0", "-1", "+1", "+", "-", " ", " 1", "1 ", "1 2", "1_000", "1.0", "1e3", "0x1",
		"a", "1a", "a1", "12345678a", "123456789a", "1/2", "1:", "1\n", "1\x00", "\x00", "\xff", "1\xff", "١", "１", "²", "0\u0660",
		"0" + strings.Repeat("1", 1000), strings.Repeat("1", 1000) + "x", strings.Repeat("0", 1000),
	}
	for _, s := range wrong {
		if n, e := nat.Parse(s); e != api.ErrText || n.Text() != "0" || n.Bits() != 0 {
			t.Errorf("Parse(%q): %s, error %d", s, n.Text(), e)
		}
	}
	for c := range 256 {
		digit := c >= '0' && c <= '9'
		if _, e := nat.Parse("1" + string([]byte{byte(c)})); (e == api.OK) != digit {
			t.Errorf("byte %d: error %d", c, e)
		}
	}
}

// checkPair holds all that is done with two numbers against math/big.
func checkPair(t *testing.T, x, y *big.Int) {
	t.Helper()
	a, b := of(t, x.String()), of(t, y.String())
	want(t, "Add", a.Add(b), new(big.Int).Add(x, y).String())
	want(t, "Mul", a.Mul(b), new(big.Int).Mul(x, y).String())
	want(t, "Gcd", a.Gcd(b), new(big.Int).GCD(nil, nil, x, y).String())
	if a.Cmp(b) != x.Cmp(y) {
		t.Errorf("Cmp of %s, %s: %d", x, y, a.Cmp(b))
	}
	rest, e := a.Sub(b)
	if x.Cmp(y) >= 0 {
		want(t, "Sub", rest, new(big.Int).Sub(x, y).String())
	} else {
		want(t, "Sub of a greater one", rest, "0")
	}
	if (e == api.ErrBelow) != (x.Cmp(y) < 0) || e != api.OK && e != api.ErrBelow {
		t.Errorf("Sub of %s, %s: error %d", x, y, e)
	}
	checkDivMod(t, x, y)
	want(t, "what was handed in", a, x.String())
	want(t, "what was handed in", b, y.String())
}

func checkDivMod(t *testing.T, x, y *big.Int) {
	t.Helper()
	quotient, rest, e := of(t, x.String()).DivMod(of(t, y.String()))
	if y.Sign() == 0 {
		if e != api.ErrZero || quotient.Text() != "0" || rest.Text() != "0" {
			t.Errorf("DivMod of %s by 0: %s, %s, error %d", x, quotient.Text(), rest.Text(), e)
		}
		return
	}
	q, r := new(big.Int).QuoRem(x, y, new(big.Int))
	if e != api.OK || quotient.Text() != q.String() || rest.Text() != r.String() {
		t.Errorf("DivMod of %s, %s: %s, %s, error %d", x, y, quotient.Text(), rest.Text(), e)
	}
}

func TestP12P13Edges(t *testing.T) {
	for _, x := range edges() {
		for _, y := range edges() {
			checkPair(t, x, y)
		}
	}
}

func TestP12P13Several(t *testing.T) {
	numbers := several(120, 512)
	for _, x := range numbers {
		for _, y := range numbers {
			checkPair(t, x, y)
		}
	}
	great := several(12, 40000)
	for _, x := range great {
		for _, y := range great {
			checkPair(t, x, y)
		}
	}
}

func TestP12DivModPatterns(t *testing.T) {
	numbers := patterns()
	for _, x := range numbers {
		for _, y := range numbers {
			checkDivMod(t, x, y)
		}
	}
}

// Products just below and above a multiple of the divisor are where a guessed
// digit is too great.
func TestP12DivModNearMultiples(t *testing.T) {
	one := big.NewInt(1)
	numbers := append(several(60, 320), edges()...)
	for _, x := range numbers {
		for _, y := range numbers {
			product := new(big.Int).Mul(x, y)
			checkDivMod(t, product, y)
			checkDivMod(t, new(big.Int).Add(product, one), y)
			if product.Sign() > 0 {
				checkDivMod(t, new(big.Int).Sub(product, one), y)
			}
		}
	}
}

func TestP12Examples(t *testing.T) {
	if rest, e := nat.Of(5).Sub(nat.Of(7)); e != api.ErrBelow || rest.Text() != "0" {
		t.Error("5 Sub 7:", rest.Text(), e)
	}
	if q, r, e := nat.Of(7).DivMod(nat.Of(0)); e != api.ErrZero || q.Text() != "0" || r.Text() != "0" {
		t.Error("7 DivMod 0:", q.Text(), r.Text(), e)
	}
	if q, r, e := nat.Of(100).DivMod(nat.Of(7)); e != api.OK || q.Text() != "14" || r.Text() != "2" {
		t.Error("100 DivMod 7:", q.Text(), r.Text(), e)
	}
}

func TestP12P13ZeroNat(t *testing.T) {
	var zero nat.Nat
	five := nat.Of(5)
	want(t, "0 + 5", zero.Add(five), "5")
	want(t, "5 + 0", five.Add(zero), "5")
	want(t, "0 + 0", zero.Add(zero), "0")
	want(t, "0 times 5", zero.Mul(five), "0")
	want(t, "5 times 0", five.Mul(zero), "0")
	want(t, "Gcd of 0, 5", zero.Gcd(five), "5")
	want(t, "Gcd of 5, 0", five.Gcd(zero), "5")
	want(t, "Gcd of 0, 0", zero.Gcd(zero), "0")
	if zero.Cmp(nat.Of(0)) != 0 || zero.Cmp(five) != -1 || five.Cmp(zero) != 1 || zero.Bits() != 0 {
		t.Error("Cmp, Bits")
	}
	if rest, e := zero.Sub(zero); e != api.OK || rest.Text() != "0" {
		t.Error("0 Sub 0:", rest.Text(), e)
	}
	if _, e := zero.Sub(five); e != api.ErrBelow {
		t.Error("0 Sub 5:", e)
	}
	if q, r, e := zero.DivMod(five); e != api.OK || q.Text() != "0" || r.Text() != "0" {
		t.Error("0 DivMod 5:", q.Text(), r.Text(), e)
	}
	if _, _, e := zero.DivMod(zero); e != api.ErrZero {
		t.Error("0 DivMod 0:", e)
	}
	// A 0 that was worked out is no other one.
	gone, _ := five.Sub(five)
	if gone.Cmp(zero) != 0 || gone.Bits() != 0 || gone.Text() != "0" {
		t.Error("5 Sub 5:", gone.Text())
	}
	if _, _, e := five.DivMod(gone); e != api.ErrZero {
		t.Error("5 DivMod (5 Sub 5):", e)
	}
}

func TestP13GcdSharesAFactor(t *testing.T) {
	want(t, "Gcd of 12, 18", nat.Of(12).Gcd(nat.Of(18)), "6")
	for _, factor := range append(several(10, 256), edges()...) {
		for _, x := range several(6, 256) {
			for _, y := range several(6, 320) {
				a, b := new(big.Int).Mul(factor, x), new(big.Int).Mul(factor, y)
				got := of(t, a.String()).Gcd(of(t, b.String()))
				want(t, "Gcd", got, new(big.Int).GCD(nil, nil, a, b).String())
			}
		}
	}
}

func TestP13CmpPatterns(t *testing.T) {
	numbers := patterns()
	for i := 0; i < len(numbers); i += 3 {
		a := of(t, numbers[i].String())
		for j := 0; j < len(numbers); j += 5 {
			b := of(t, numbers[j].String())
			if a.Cmp(b) != numbers[i].Cmp(numbers[j]) {
				t.Fatalf("Cmp of %s, %s: %d", a.Text(), b.Text(), a.Cmp(b))
			}
		}
	}
}

func TestP13Bits(t *testing.T) {
	for n, bits := range map[uint64]int{0: 0, 1: 1, 2: 2, 3: 2, 255: 8, 256: 9, math.MaxUint32: 32, 1 << 32: 33, math.MaxUint64: 64} {
		if got := nat.Of(n).Bits(); got != bits {
			t.Errorf("Bits of %d: %d", n, got)
		}
	}
	for _, n := range append(edges(), patterns()...) {
		if got := of(t, n.String()).Bits(); got != n.BitLen() {
			t.Errorf("Bits of %s: %d", n, got)
		}
	}
}

func TestP14Laws(t *testing.T) {
	var numbers []nat.Nat
	for _, n := range append(several(8, 256), edges()[:24]...) {
		numbers = append(numbers, of(t, n.String()))
	}
	same := func(law string, x, y nat.Nat) {
		if x.Cmp(y) != 0 || x.Text() != y.Text() {
			t.Errorf("%s: %s, %s", law, x.Text(), y.Text())
		}
	}
	for _, a := range numbers {
		for _, b := range numbers {
			same("a + b = b + a", a.Add(b), b.Add(a))
			same("a b = b a", a.Mul(b), b.Mul(a))
			back, _ := a.Add(b).Sub(b)
			same("a + b - b = a", back, a)
			if q, r, e := a.DivMod(b); e == api.OK {
				same("a = q b + r", q.Mul(b).Add(r), a)
				if r.Cmp(b) >= 0 {
					t.Errorf("left of %s by %s: %s", a.Text(), b.Text(), r.Text())
				}
			} else if b.Bits() != 0 {
				t.Errorf("DivMod of %s, %s: error %d", a.Text(), b.Text(), e)
			}
			for _, c := range numbers {
				same("(a + b) + c = a + (b + c)", a.Add(b).Add(c), a.Add(b.Add(c)))
				same("(a b) c = a (b c)", a.Mul(b).Mul(c), a.Mul(b.Mul(c)))
				same("a (b + c) = a b + a c", a.Mul(b.Add(c)), a.Mul(b).Add(a.Mul(c)))
			}
		}
	}
}

// A chain of answers, each handed in again: none of them may change by what
// is done with it later.
func TestP14NothingChanges(t *testing.T) {
	a := of(t, "340282366920938463463374607431768211456")
	kept := []nat.Nat{a}
	texts := []string{a.Text()}
	keep := func(n nat.Nat) {
		kept = append(kept, n)
		texts = append(texts, n.Text())
	}
	for i := range 40 {
		last := kept[len(kept)-1]
		keep(last.Add(nat.Of(math.MaxUint64)))
		keep(last.Mul(nat.Of(uint64(i + 3))))
		quotient, rest, _ := kept[len(kept)-1].DivMod(kept[len(kept)/2])
		keep(quotient)
		keep(rest)
		keep(kept[len(kept)-3].Gcd(nat.Of(0)))
		left, _ := kept[len(kept)-1].Sub(nat.Of(1))
		keep(left)
	}
	for i := range kept {
		want(t, "kept", kept[i], texts[i])
	}
}
