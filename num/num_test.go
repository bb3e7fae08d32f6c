package num_test

import (
	"math"
	"math/big"
	"math/rand/v2"
	"strings"
	"testing"

	"noonbell/api"
	"noonbell/nat"
	"noonbell/num"
)

// of reads a number, and fails the test if its text is refused or comes back
// as another one.
func of(t *testing.T, n *big.Int) num.Num {
	t.Helper()
	got, e := num.Parse(n.String())
	if e != api.OK || got.Text() != n.String() {
		t.Fatalf("Parse(%q): %q, error %d", n.String(), got.Text(), e)
	}
	return got
}

// want asks for the text, and that the sign is that of the text: a 0 that is
// below 0 has another one.
func want(t *testing.T, what string, got num.Num, text string) {
	t.Helper()
	if got.Text() != text {
		t.Errorf("%s: %s, not %s", what, got.Text(), text)
	}
	sign := 1
	switch {
	case text == "0":
		sign = 0
	case text[0] == '-':
		sign = -1
	}
	if got.Sign() != sign {
		t.Errorf("%s: the sign of %s is %d", what, text, got.Sign())
	}
}

func wantPair(t *testing.T, what string, q, r num.Num, e api.Errno, quotient, rest string) {
	t.Helper()
	if e != api.OK {
		t.Errorf("%s: error %d", what, e)
	}
	want(t, what+", quotient", q, quotient)
	want(t, what+", rest", r, rest)
}

// edges are numbers on both sides of 0 where words and ints begin and end,
// and small ones, which divide each other with and without a rest.
func edges() []*big.Int {
	one := big.NewInt(1)
	above := []*big.Int{}
	for n := range int64(13) {
		above = append(above, big.NewInt(n))
	}
	for _, bits := range []uint{31, 32, 62, 63, 64, 65, 128} {
		power := new(big.Int).Lsh(one, bits)
		above = append(above, power, new(big.Int).Sub(power, one), new(big.Int).Add(power, one))
	}
	for _, digits := range []int64{9, 18, 19, 40} {
		above = append(above, new(big.Int).Exp(big.NewInt(10), big.NewInt(digits), nil))
	}
	return onBothSides(above)
}

func onBothSides(above []*big.Int) []*big.Int {
	var found []*big.Int
	for _, n := range above {
		found = append(found, n)
		if n.Sign() > 0 {
			found = append(found, new(big.Int).Neg(n))
		}
	}
	return found
}

// several are numbers of up to so many bits on both sides of 0, always the
// same ones.
func several(count, bits int) []*big.Int {
	source := rand.New(rand.NewPCG(2, 2))
	var above []*big.Int
	for range count {
		n := new(big.Int)
		for range 1 + source.IntN(bits/64) {
			n.Lsh(n, 64).Add(n, new(big.Int).SetUint64(source.Uint64()))
		}
		above = append(above, n.Rsh(n, uint(source.IntN(64))))
	}
	return onBothSides(above)
}

func TestP21OfAndText(t *testing.T) {
	for _, n := range []int{0, 1, -1, 9, -9, 10, -10, math.MaxInt32, math.MinInt32, 1 << 32, -1 << 32, math.MaxInt - 1, math.MaxInt, math.MinInt + 1, math.MinInt} {
		want(t, "Of", num.Of(n), big.NewInt(int64(n)).String())
	}
	var zero num.Num
	want(t, "the zero Num", zero, "0")
}

func TestP21Parse(t *testing.T) {
	for _, n := range append(edges(), several(40, 512)...) {
		of(t, n)
	}
	for _, length := range []int{1, 9, 18, 19, 1000, 3001} {
		for _, s := range []string{strings.Repeat("9", length), "1" + strings.Repeat("0", length)} {
			for _, text := range []string{s, "-" + s} {
				n, e := num.Parse(text)
				if e != api.OK {
					t.Errorf("Parse(%q): error %d", text, e)
				}
				want(t, "Parse", n, text)
			}
		}
	}
	n, e := num.Parse("-5")
	if e != api.OK || n.Cmp(num.Of(-5)) != 0 {
		t.Error("-5:", n.Text(), e)
	}
}

func TestP21ParseRefuses(t *testing.T) {
	wrong := []string{
		"", "-", "+", "-0", "+0", "+5", "--1", "---1", "-+1", "+-1", "- 1", " -1", "-1 ", "1-", "1-2", "-1-", "-00", "-05", "05", "00", "-01",
		" ", "a", "-a", "1a", "-1a", "1.0", "-1.0", "1e3", "0x1", "1_000", "1/2", "-1/2", "1\n", "-1\n", "1\x00", "\x00", "\xff", "-\xff", "−1", "–5", "-١", "１",
		"-" + strings.Repeat("0", 1000), "-0" + strings.Repeat("1", 1000), "-" + strings.Repeat("1", 1000) + "x", strings.Repeat("-", 1000),
	}
	for _, s := range wrong {
		n, e := num.Parse(s)
		if e != api.ErrText {
			t.Errorf("Parse(%q): error %d", s, e)
		}
		want(t, "Parse of a wrong text", n, "0")
	}
	for c := range 256 {
		digit := c >= '0' && c <= '9'
		if _, e := num.Parse("-1" + string([]byte{byte(c)})); (e == api.OK) != digit {
			t.Errorf("byte %d behind: error %d", c, e)
		}
		if _, e := num.Parse(string([]byte{byte(c)}) + "1"); (e == api.OK) != (digit && c != '0' || c == '-') {
			t.Errorf("byte %d ahead: error %d", c, e)
		}
	}
}

func TestP21Make(t *testing.T) {
	for _, n := range append(edges(), several(40, 512)...) {
		size, e := nat.Parse(new(big.Int).Abs(n).String())
		if e != api.OK {
			t.Fatal(n, e)
		}
		want(t, "Make", num.Make(n.Sign() < 0, size), n.String())
		want(t, "Make, the other way", num.Make(n.Sign() >= 0, size), new(big.Int).Neg(n).String())
		if size.Text() != new(big.Int).Abs(n).String() {
			t.Error("what was handed in:", size.Text())
		}
	}
	want(t, "0 below 0", num.Make(true, nat.Nat{}), "0")
	want(t, "0", num.Make(false, nat.Nat{}), "0")
	gone, _ := nat.Of(7).Sub(nat.Of(7))
	want(t, "7 less 7 below 0", num.Make(true, gone), "0")
	if num.Make(true, nat.Of(0)).Cmp(num.Num{}) != 0 {
		t.Error("0 below 0 is not 0")
	}
}

func TestP22SignAbsNeg(t *testing.T) {
	for _, n := range append(edges(), several(40, 512)...) {
		a := of(t, n)
		if a.Sign() != n.Sign() {
			t.Errorf("Sign of %s: %d", n, a.Sign())
		}
		if got := a.Abs().Text(); got != new(big.Int).Abs(n).String() {
			t.Errorf("Abs of %s: %s", n, got)
		}
		want(t, "Neg", a.Neg(), new(big.Int).Neg(n).String())
		want(t, "Neg, twice", a.Neg().Neg(), n.String())
		want(t, "what was asked", a, n.String())
	}
}

func TestP22Int(t *testing.T) {
	for _, n := range []int{0, 1, -1, 42, -42, math.MaxInt32, math.MinInt32, math.MaxInt - 1, math.MaxInt, math.MinInt + 1, math.MinInt} {
		if got, ok := num.Of(n).Int(); got != n || !ok {
			t.Errorf("Int of %d: %d, %t", n, got, ok)
		}
	}
	for _, n := range append(edges(), several(40, 512)...) {
		got, ok := of(t, n).Int()
		if ok != n.IsInt64() || ok && int64(got) != n.Int64() || !ok && got != 0 {
			t.Errorf("Int of %s: %d, %t", n, got, ok)
		}
	}
	beyond := []num.Num{
		num.Of(math.MaxInt).Add(num.Of(1)),
		num.Of(math.MinInt).Sub(num.Of(1)),
		num.Of(math.MinInt).Neg(),
		num.Make(false, nat.Of(math.MaxUint64)),
		num.Make(true, nat.Of(math.MaxUint64)),
		num.Of(math.MaxInt).Mul(num.Of(math.MaxInt)),
	}
	for _, n := range beyond {
		if got, ok := n.Int(); ok || got != 0 {
			t.Errorf("Int of %s: %d, %t", n.Text(), got, ok)
		}
	}
}

// checkPair holds all that is done with two numbers against math/big.
func checkPair(t *testing.T, x, y *big.Int) {
	t.Helper()
	a, b := of(t, x), of(t, y)
	pair := x.String() + ", " + y.String()
	want(t, "Add of "+pair, a.Add(b), new(big.Int).Add(x, y).String())
	want(t, "Sub of "+pair, a.Sub(b), new(big.Int).Sub(x, y).String())
	want(t, "Mul of "+pair, a.Mul(b), new(big.Int).Mul(x, y).String())
	if a.Cmp(b) != x.Cmp(y) {
		t.Errorf("Cmp of %s: %d", pair, a.Cmp(b))
	}
	if y.Sign() != 0 {
		checkDivided(t, x, y)
	}
	want(t, "what was handed in", a, x.String())
	want(t, "what was handed in", b, y.String())
}

func checkDivided(t *testing.T, x, y *big.Int) {
	t.Helper()
	a, b := of(t, x), of(t, y)
	pair := x.String() + ", " + y.String()
	quotient, rest := new(big.Int).QuoRem(x, y, new(big.Int))
	q, r, e := a.QuoRem(b)
	wantPair(t, "QuoRem of "+pair, q, r, e, quotient.String(), rest.String())
	if rest.Sign() != 0 && rest.Sign() != y.Sign() {
		quotient.Sub(quotient, big.NewInt(1))
		rest.Add(rest, y)
	}
	q, r, e = a.DivMod(b)
	wantPair(t, "DivMod of "+pair, q, r, e, quotient.String(), rest.String())
}

func TestP22P23Edges(t *testing.T) {
	for _, x := range edges() {
		for _, y := range edges() {
			checkPair(t, x, y)
		}
	}
}

func TestP22P23Several(t *testing.T) {
	for _, x := range several(40, 512) {
		for _, y := range several(40, 512) {
			checkPair(t, x, y)
		}
	}
	for _, x := range several(5, 20000) {
		for _, y := range several(5, 20000) {
			checkPair(t, x, y)
		}
	}
}

// Where nothing is left, and one to either side of it, rounding goes over.
func TestP23DividedNearMultiples(t *testing.T) {
	numbers := append(several(12, 256), edges()...)
	for _, x := range numbers {
		for _, y := range numbers {
			if y.Sign() == 0 {
				continue
			}
			product := new(big.Int).Mul(x, y)
			for beside := int64(-1); beside <= 1; beside++ {
				checkDivided(t, new(big.Int).Add(product, big.NewInt(beside)), y)
			}
		}
	}
}

func TestP23Examples(t *testing.T) {
	// Divided, by, cut, left, rounded down, left.
	for _, c := range [][6]int{
		{7, 2, 3, 1, 3, 1}, {-7, 2, -3, -1, -4, 1}, {7, -2, -3, 1, -4, -1}, {-7, -2, 3, -1, 3, -1},
		{6, 3, 2, 0, 2, 0}, {-6, 3, -2, 0, -2, 0}, {6, -3, -2, 0, -2, 0}, {-6, -3, 2, 0, 2, 0},
		{1, 2, 0, 1, 0, 1}, {-1, 2, 0, -1, -1, 1}, {1, -2, 0, 1, -1, -1}, {-1, -2, 0, -1, 0, -1},
		{0, 5, 0, 0, 0, 0}, {0, -5, 0, 0, 0, 0},
		{math.MinInt, 1, math.MinInt, 0, math.MinInt, 0}, {math.MinInt, math.MaxInt, -1, -1, -2, math.MaxInt - 1},
	} {
		a, b := num.Of(c[0]), num.Of(c[1])
		q, r, e := a.QuoRem(b)
		wantPair(t, "QuoRem", q, r, e, num.Of(c[2]).Text(), num.Of(c[3]).Text())
		q, r, e = a.DivMod(b)
		wantPair(t, "DivMod", q, r, e, num.Of(c[4]).Text(), num.Of(c[5]).Text())
	}
	// The one quotient of two ints that is none.
	q, r, e := num.Of(math.MinInt).QuoRem(num.Of(-1))
	wantPair(t, "the least int by -1", q, r, e, "9223372036854775808", "0")
	q, r, e = num.Of(math.MinInt).DivMod(num.Of(-1))
	wantPair(t, "the least int by -1", q, r, e, "9223372036854775808", "0")
}

func TestP23DividedByZero(t *testing.T) {
	zeros := []num.Num{{}, num.Of(0), num.Make(true, nat.Nat{}), num.Of(0).Neg(), num.Of(-5).Add(num.Of(5)), num.Of(-5).Mul(num.Num{})}
	for _, n := range append(edges(), several(4, 512)...) {
		for _, zero := range zeros {
			q, r, e := of(t, n).QuoRem(zero)
			if e != api.ErrZero {
				t.Errorf("%s QuoRem 0: error %d", n, e)
			}
			want(t, "QuoRem 0, quotient", q, "0")
			want(t, "QuoRem 0, rest", r, "0")
			q, r, e = of(t, n).DivMod(zero)
			if e != api.ErrZero {
				t.Errorf("%s DivMod 0: error %d", n, e)
			}
			want(t, "DivMod 0, quotient", q, "0")
			want(t, "DivMod 0, rest", r, "0")
		}
	}
}

// Whatever 0 was worked out of, it is the same one.
func TestP22P23Zero(t *testing.T) {
	var zero num.Num
	five, less := num.Of(5), num.Of(-5)
	_, none, _ := num.Of(-6).QuoRem(num.Of(3))
	_, nothing, _ := num.Of(6).DivMod(num.Of(-3))
	small, _, _ := num.Of(-1).QuoRem(num.Of(2))
	for _, n := range []num.Num{
		zero, num.Of(0), zero.Neg(), zero.Neg().Neg(), num.Make(true, nat.Nat{}),
		five.Add(less), less.Add(five), five.Sub(five), less.Sub(less), zero.Sub(zero),
		zero.Mul(less), less.Mul(zero), zero.Neg().Mul(less), none, nothing, small,
	} {
		want(t, "0", n, "0")
		if n.Cmp(zero) != 0 || zero.Cmp(n) != 0 || n.Cmp(less) != 1 || less.Cmp(n) != -1 || n.Cmp(five) != -1 || five.Cmp(n) != 1 {
			t.Error("Cmp")
		}
		if k, ok := n.Int(); k != 0 || !ok {
			t.Error("Int:", k, ok)
		}
		if n.Abs().Text() != "0" {
			t.Error("Abs:", n.Abs().Text())
		}
		want(t, "0 + 5", n.Add(five), "5")
		want(t, "0 - 5", n.Sub(five), "-5")
		want(t, "-5 + 0", less.Add(n), "-5")
		want(t, "-5 - 0", less.Sub(n), "-5")
		want(t, "0 - -5", n.Sub(less), "5")
	}
}

func TestP24Laws(t *testing.T) {
	var numbers []num.Num
	for _, n := range append(several(6, 256), edges()...) {
		numbers = append(numbers, of(t, n))
	}
	same := func(law string, x, y num.Num) {
		if x.Cmp(y) != 0 || x.Text() != y.Text() || x.Sign() != y.Sign() {
			t.Errorf("%s: %s, %s", law, x.Text(), y.Text())
		}
	}
	for _, a := range numbers {
		same("a made of sign and size", num.Make(a.Sign() < 0, a.Abs()), a)
		same("a + -a", a.Add(a.Neg()), num.Num{})
		for _, b := range numbers {
			same("a - b = a + -b", a.Sub(b), a.Add(b.Neg()))
			same("a - b + b = a", a.Sub(b).Add(b), a)
			same("a b = b a", a.Mul(b), b.Mul(a))
			if a.Sub(b).Sign() != a.Cmp(b) {
				t.Errorf("Cmp of %s, %s: %d", a.Text(), b.Text(), a.Cmp(b))
			}
			checkRests(t, a, b)
			same("a (b + a) = a b + a a", a.Mul(b.Add(a)), a.Mul(b).Add(a.Mul(a)))
		}
	}
}

// checkRests asks what is divided of quotient, divisor and rest, and where
// the rest may lie.
func checkRests(t *testing.T, a, b num.Num) {
	t.Helper()
	if b.Sign() == 0 {
		return
	}
	back := func(q, r num.Num, e api.Errno) {
		t.Helper()
		if e != api.OK || q.Mul(b).Add(r).Cmp(a) != 0 || r.Abs().Cmp(b.Abs()) >= 0 {
			t.Errorf("%s by %s: %s, %s, error %d", a.Text(), b.Text(), q.Text(), r.Text(), e)
		}
	}
	q, r, e := a.QuoRem(b)
	back(q, r, e)
	if r.Sign() != 0 && r.Sign() != a.Sign() {
		t.Errorf("%s QuoRem %s leaves %s", a.Text(), b.Text(), r.Text())
	}
	q, r, e = a.DivMod(b)
	back(q, r, e)
	if r.Sign() != 0 && r.Sign() != b.Sign() {
		t.Errorf("%s DivMod %s leaves %s", a.Text(), b.Text(), r.Text())
	}
}

// A chain of answers, each handed in again: none of them may change by what
// is done with it later.
func TestP24NothingChanges(t *testing.T) {
	kept := []num.Num{num.Of(math.MinInt).Mul(num.Of(math.MaxInt))}
	texts := []string{kept[0].Text()}
	keep := func(n num.Num) {
		kept = append(kept, n)
		texts = append(texts, n.Text())
	}
	for i := range 40 {
		last := kept[len(kept)-1]
		keep(last.Add(num.Of(math.MaxInt)))
		keep(last.Mul(num.Of(-i - 3)))
		quotient, rest, _ := kept[len(kept)-1].QuoRem(kept[len(kept)/2])
		keep(quotient)
		keep(rest)
		quotient, rest, _ = last.DivMod(kept[len(kept)/2])
		keep(rest)
		keep(quotient.Neg())
		keep(num.Make(i%2 == 0, last.Abs()))
		keep(kept[len(kept)-1].Sub(num.Of(i)))
	}
	for i := range kept {
		want(t, "kept", kept[i], texts[i])
	}
}
