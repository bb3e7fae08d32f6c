package rat_test

import (
	"math"
	"math/big"
	"math/rand/v2"
	"strings"
	"testing"

	"noonbell/api"
	"noonbell/num"
	"noonbell/rat"
)

// textOf is the text that the chapter asks for: math/big tells a denominator
// of 1, too.
func textOf(n *big.Rat) string {
	return n.RatString()
}

// of reads a fraction, and fails the test if its text is refused or comes
// back as another one.
func of(t *testing.T, n *big.Rat) rat.Rat {
	t.Helper()
	got, e := rat.Parse(textOf(n))
	if e != api.OK || got.Text() != textOf(n) {
		t.Fatalf("Parse(%q): %q, error %d", textOf(n), got.Text(), e)
	}
	return got
}

func parsed(t *testing.T, text string) rat.Rat {
	t.Helper()
	got, e := rat.Parse(text)
	if e != api.OK {
		t.Fatalf("Parse(%q): error %d", text, e)
	}
	return got
}

func numOf(t *testing.T, n *big.Int) num.Num {
	t.Helper()
	got, e := num.Parse(n.String())
	if e != api.OK {
		t.Fatal(n, e)
	}
	return got
}

// want asks for all that a fraction tells of itself: its text, its sign, its
// numerator and its denominator.
func want(t *testing.T, what string, got rat.Rat, n *big.Rat) {
	t.Helper()
	if got.Text() != textOf(n) {
		t.Errorf("%s: %s, not %s", what, got.Text(), textOf(n))
	}
	if got.Sign() != n.Sign() {
		t.Errorf("%s: the sign of %s is %d", what, textOf(n), got.Sign())
	}
	if got.Num().Text() != n.Num().String() || got.Den().Text() != n.Denom().String() {
		t.Errorf("%s: numerator %s, denominator %s, not those of %s", what, got.Num().Text(), got.Den().Text(), n)
	}
	if got.Num().Sign() != n.Sign() || got.Den().Sign() != 1 {
		t.Errorf("%s: signs %d, %d of %s", what, got.Num().Sign(), got.Den().Sign(), n)
	}
}

func wantText(t *testing.T, what string, got num.Num, text string) {
	t.Helper()
	if got.Text() != text {
		t.Errorf("%s: %s, not %s", what, got.Text(), text)
	}
}

// sizes are whole numbers on both sides of 0: small ones, which have much in
// common, and those where words begin and end.
func sizes() []*big.Int {
	var found []*big.Int
	for n := int64(-12); n <= 12; n++ {
		found = append(found, big.NewInt(n))
	}
	for _, bits := range []uint{32, 63, 64, 128} {
		power := new(big.Int).Lsh(big.NewInt(1), bits)
		for _, n := range []*big.Int{power, new(big.Int).Sub(power, big.NewInt(1)), new(big.Int).Add(power, big.NewInt(1))} {
			found = append(found, n, new(big.Int).Neg(n))
		}
	}
	return found
}

// several are whole numbers of up to so many bits on both sides of 0, always
// the same ones.
func several(count, bits int) []*big.Int {
	source := rand.New(rand.NewPCG(3, 3))
	var found []*big.Int
	for i := range count {
		n := new(big.Int)
		for range 1 + source.IntN(bits/64) {
			n.Lsh(n, 64).Add(n, new(big.Int).SetUint64(source.Uint64()))
		}
		n.Rsh(n, uint(source.IntN(64)))
		if i%2 == 1 {
			n.Neg(n)
		}
		found = append(found, n)
	}
	return found
}

// small are the fractions with a numerator and a denominator of one digit.
func small() []*big.Rat {
	var found []*big.Rat
	seen := map[string]bool{}
	for a := int64(-9); a <= 9; a++ {
		for b := int64(1); b <= 9; b++ {
			n := big.NewRat(a, b)
			if !seen[textOf(n)] {
				seen[textOf(n)] = true
				found = append(found, n)
			}
		}
	}
	return found
}

// great are fractions of numbers of many digits, and some that have a part of
// their denominators in common.
func great() []*big.Rat {
	parts := several(24, 512)
	var found []*big.Rat
	for i, a := range parts {
		b := parts[(i*7+5)%len(parts)]
		if b.Sign() != 0 {
			found = append(found, new(big.Rat).SetFrac(a, b), new(big.Rat).SetFrac(big.NewInt(int64(i)-11), b))
		}
	}
	return found
}

func TestP31OfAndText(t *testing.T) {
	for _, n := range []int{0, 1, -1, 9, -9, 10, -10, math.MaxInt32, math.MinInt32, math.MaxInt - 1, math.MaxInt, math.MinInt + 1, math.MinInt} {
		want(t, "Of", rat.Of(n), new(big.Rat).SetInt64(int64(n)))
	}
	var zero rat.Rat
	want(t, "the zero Rat", zero, new(big.Rat))
}

func TestP31Make(t *testing.T) {
	tops := append(sizes(), several(20, 512)...)
	for _, a := range tops {
		for _, b := range tops {
			x, y := numOf(t, a), numOf(t, b)
			got, e := rat.Make(x, y)
			if b.Sign() == 0 {
				if e != api.ErrZero {
					t.Errorf("Make(%s, 0): error %d", a, e)
				}
				want(t, "Make of a denominator of 0", got, new(big.Rat))
				continue
			}
			if e != api.OK {
				t.Errorf("Make(%s, %s): error %d", a, b, e)
			}
			want(t, "Make", got, new(big.Rat).SetFrac(a, b))
			wantText(t, "the numerator that was handed in", x, a.String())
			wantText(t, "the denominator that was handed in", y, b.String())
		}
	}
	var none num.Num
	if _, e := rat.Make(none, none); e != api.ErrZero {
		t.Error("0 / 0: error", e)
	}
}

func TestP31Examples(t *testing.T) {
	got, e := rat.Make(num.Of(6), num.Of(-4))
	if e != api.OK || got.Text() != "-3/2" || got.Num().Text() != "-3" || got.Den().Text() != "2" {
		t.Error("6 / -4:", got.Text(), e)
	}
	got, e = rat.Parse("-1/2")
	if e != api.OK || got.Text() != "-1/2" || got.Cmp(rat.Of(0)) != -1 || got.Add(got).Cmp(rat.Of(-1)) != 0 {
		t.Error("-1/2:", got.Text(), e)
	}
}

func TestP31Parse(t *testing.T) {
	for _, n := range append(small(), great()...) {
		want(t, "Parse", of(t, n), n)
	}
	for _, length := range []int{1, 19, 1000, 1501} {
		nines, ten := strings.Repeat("9", length), "1"+strings.Repeat("0", length)
		for _, text := range []string{nines, ten, nines + "/" + ten, "1/" + ten, ten + "/" + nines, "1/" + nines + "8"} {
			for _, sign := range []string{"", "-"} {
				if got := parsed(t, sign+text).Text(); got != sign+text {
					t.Errorf("%q came back as %q", sign+text, got)
				}
			}
		}
	}
}

func TestP31ParseRefuses(t *testing.T) {
	wrong := []string{
		"", "/", "//", "1/", "/1", "/2", "-", "-/", "-/2", "1/-", "1//2", "1/2/", "/1/2", "1/2/3", "4/2/1", "1/2/1",
		"2/4", "-2/4", "6/4", "3/3", "-3/3", "10/5", "0/1", "0/2", "0/7", "-0", "-0/1", "-0/2", "3/1", "-3/1", "1/1",
		"1/0", "0/0", "-1/0", "1/-0", "1/-2", "-1/-2", "0/-1", "1/+2", "+1/2", "+1", "--1/2", "-+1/2", "1/--2",
		"01/2", "1/02", "00/3", "1/00", "007", "00", "-01/2", "1/2.0", "0.5", "1.5/2", "1e1", "1/1e1", "0x1/2", "1_0/3",
		" 1/2", "1/2 ", "1 /2", "1/ 2", "1 / 2", "1 2", "1:2", "1\\2", "½", "1⁄2", "1∕2", "１/2", "a", "1/a", "a/2", "1/2\n", "\n1/2", "1/2\x00", "1\x00/2", "\xff", "1/\xff",
		strings.Repeat("1", 1000) + "/" + strings.Repeat("1", 500), strings.Repeat("2", 1000) + "/4", strings.Repeat("7", 1000) + "/1", strings.Repeat("/", 1000),
	}
	for _, s := range wrong {
		got, e := rat.Parse(s)
		if e != api.ErrText {
			t.Errorf("Parse(%q): error %d", s, e)
		}
		want(t, "Parse of a wrong text", got, new(big.Rat))
	}
	for c := range 256 {
		one := string([]byte{byte(c)})
		digit := c >= '0' && c <= '9'
		for text, may := range map[string]bool{
			"1/1000003" + one: digit,
			one + "1/1000003": digit && c != '0' || c == '-',
			"1" + one + "3":   digit || c == '/',
			"1/" + one + "1":  digit && c != '0',
		} {
			if _, e := rat.Parse(text); (e == api.OK) != may {
				t.Errorf("Parse(%q): error %d", text, e)
			}
		}
	}
}

// TestP31ParseLowest holds the texts of all small pairs against what is in
// lowest terms.
func TestP31ParseLowest(t *testing.T) {
	for a := int64(-30); a <= 30; a++ {
		for b := int64(-30); b <= 30; b++ {
			text := big.NewInt(a).String() + "/" + big.NewInt(b).String()
			is := b > 1 && new(big.Int).GCD(nil, nil, new(big.Int).Abs(big.NewInt(a)), big.NewInt(b)).Int64() == 1
			got, e := rat.Parse(text)
			if (e == api.OK) != is || !is && e != api.ErrText {
				t.Errorf("Parse(%q): error %d", text, e)
			}
			if is {
				want(t, "Parse", got, big.NewRat(a, b))
			}
		}
	}
}

// checkPair holds all that is done with two fractions against math/big.
func checkPair(t *testing.T, x, y *big.Rat) {
	t.Helper()
	a, b := of(t, x), of(t, y)
	pair := textOf(x) + ", " + textOf(y)
	want(t, "Add of "+pair, a.Add(b), new(big.Rat).Add(x, y))
	want(t, "Sub of "+pair, a.Sub(b), new(big.Rat).Sub(x, y))
	want(t, "Mul of "+pair, a.Mul(b), new(big.Rat).Mul(x, y))
	if a.Cmp(b) != x.Cmp(y) {
		t.Errorf("Cmp of %s: %d", pair, a.Cmp(b))
	}
	got, e := a.Div(b)
	if y.Sign() == 0 {
		if e != api.ErrZero {
			t.Errorf("Div of %s: error %d", pair, e)
		}
		want(t, "Div by 0", got, new(big.Rat))
	} else {
		if e != api.OK {
			t.Errorf("Div of %s: error %d", pair, e)
		}
		want(t, "Div of "+pair, got, new(big.Rat).Quo(x, y))
	}
	want(t, "what was asked", a, x)
	want(t, "what was handed in", b, y)
}

func TestP32SmallPairs(t *testing.T) {
	for _, x := range small() {
		for _, y := range small() {
			checkPair(t, x, y)
		}
	}
}

func TestP32GreatPairs(t *testing.T) {
	all := great()
	for i, x := range all {
		for _, y := range all[i%3:] {
			checkPair(t, x, y)
		}
		for _, y := range []*big.Rat{new(big.Rat), big.NewRat(1, 1), big.NewRat(-1, 2), x, new(big.Rat).Neg(x)} {
			checkPair(t, x, y)
			checkPair(t, y, x)
		}
	}
}

func TestP32SignAndNeg(t *testing.T) {
	for _, x := range append(small(), great()...) {
		a := of(t, x)
		want(t, "Neg", a.Neg(), new(big.Rat).Neg(x))
		want(t, "Neg, twice", a.Neg().Neg(), x)
		if a.Sign() != x.Sign() {
			t.Errorf("Sign of %s: %d", textOf(x), a.Sign())
		}
		want(t, "what was asked", a, x)
	}
}

func TestP32TheZeroRat(t *testing.T) {
	var zero rat.Rat
	none := new(big.Rat)
	third := parsed(t, "-1/3")
	want(t, "Neg of 0", zero.Neg(), none)
	want(t, "0 and 0", zero.Add(zero), none)
	want(t, "0 less 0", zero.Sub(zero), none)
	want(t, "0 times 0", zero.Mul(zero), none)
	want(t, "0 and -1/3", zero.Add(third), big.NewRat(-1, 3))
	want(t, "0 less -1/3", zero.Sub(third), big.NewRat(1, 3))
	want(t, "-1/3 less 0", third.Sub(zero), big.NewRat(-1, 3))
	want(t, "0 times -1/3", zero.Mul(third), none)
	if got, e := zero.Div(third); e != api.OK || got.Text() != "0" || got.Den().Text() != "1" {
		t.Error("0 by -1/3:", got.Text(), e)
	}
	for _, a := range []rat.Rat{zero, rat.Of(1), third} {
		for _, none := range []rat.Rat{{}, rat.Of(0), third.Sub(third), zero.Neg()} {
			if got, e := a.Div(none); e != api.ErrZero || got.Text() != "0" {
				t.Errorf("%s by 0: %s, error %d", a.Text(), got.Text(), e)
			}
		}
	}
	if zero.Cmp(zero) != 0 || zero.Cmp(third) != 1 || third.Cmp(zero) != -1 || zero.Cmp(rat.Of(0)) != 0 {
		t.Error("Cmp with 0")
	}
	wantText(t, "Floor of 0", zero.Floor(), "0")
	wantText(t, "Round of 0", zero.Round(), "0")
}

// floored and rounded are the chapter's words by another way than the
// program's: by the whole numbers beside the fraction, held against it.
func floored(n *big.Rat) *big.Int {
	down := new(big.Int).Quo(n.Num(), n.Denom())
	for new(big.Rat).SetInt(down).Cmp(n) > 0 {
		down.Sub(down, big.NewInt(1))
	}
	return down
}

func rounded(n *big.Rat) *big.Int {
	down := floored(n)
	up := new(big.Int).Add(down, big.NewInt(1))
	toDown := new(big.Rat).Sub(n, new(big.Rat).SetInt(down))
	toUp := new(big.Rat).Sub(new(big.Rat).SetInt(up), n)
	switch toDown.Cmp(toUp) {
	case -1:
		return down
	case 1:
		return up
	}
	if down.Bit(0) == 0 {
		return down
	}
	return up
}

func TestP33Table(t *testing.T) {
	for _, c := range []struct{ text, floor, round string }{
		{"0", "0", "0"}, {"1", "1", "1"}, {"-1", "-1", "-1"}, {"7", "7", "7"}, {"-7", "-7", "-7"},
		{"1/2", "0", "0"}, {"3/2", "1", "2"}, {"5/2", "2", "2"}, {"7/2", "3", "4"},
		{"-1/2", "-1", "0"}, {"-3/2", "-2", "-2"}, {"-5/2", "-3", "-2"}, {"-7/2", "-4", "-4"},
		{"5/3", "1", "2"}, {"4/3", "1", "1"}, {"1/3", "0", "0"}, {"2/3", "0", "1"},
		{"-1/3", "-1", "0"}, {"-2/3", "-1", "-1"}, {"-4/3", "-2", "-1"}, {"-5/3", "-2", "-2"},
		{"499999999999999999999/1000000000000000000000", "0", "0"}, {"500000000000000000001/1000000000000000000000", "0", "1"},
		{"-499999999999999999999/1000000000000000000000", "-1", "0"}, {"-500000000000000000001/1000000000000000000000", "-1", "-1"},
		{"36893488147419103231/2", "18446744073709551615", "18446744073709551616"}, {"36893488147419103233/2", "18446744073709551616", "18446744073709551616"},
		{"-36893488147419103231/2", "-18446744073709551616", "-18446744073709551616"}, {"-36893488147419103233/2", "-18446744073709551617", "-18446744073709551616"},
	} {
		a := parsed(t, c.text)
		wantText(t, "Floor of "+c.text, a.Floor(), c.floor)
		wantText(t, "Round of "+c.text, a.Round(), c.round)
	}
}

func TestP33All(t *testing.T) {
	all := append(small(), great()...)
	for n := int64(-200); n <= 200; n++ {
		for d := int64(1); d <= 8; d++ {
			all = append(all, big.NewRat(n, d))
		}
	}
	half := big.NewRat(1, 2)
	for _, n := range several(40, 512) {
		whole := new(big.Rat).SetInt(n)
		beside := new(big.Rat).SetFrac(big.NewInt(1), new(big.Int).Lsh(big.NewInt(1), 300))
		middle := new(big.Rat).Add(whole, half)
		all = append(all, whole, middle, new(big.Rat).Add(middle, beside), new(big.Rat).Sub(middle, beside), new(big.Rat).Sub(whole, beside))
	}
	for _, n := range all {
		a := of(t, n)
		wantText(t, "Floor of "+textOf(n), a.Floor(), floored(n).String())
		wantText(t, "Round of "+textOf(n), a.Round(), rounded(n).String())
		want(t, "what was asked", a, n)
	}
}

func TestP34Laws(t *testing.T) {
	texts := []string{"0", "1", "-1", "1/2", "-1/2", "2/3", "-7/6", "15/4", "9", "-36893488147419103231/2", "1/18446744073709551616", "123456789012345678901234567890/987654321098765432109876543211"}
	var all []rat.Rat
	for _, s := range texts {
		all = append(all, parsed(t, s))
	}
	same := func(law string, x, y rat.Rat) {
		t.Helper()
		if x.Cmp(y) != 0 || x.Text() != y.Text() {
			t.Errorf("%s: %s, %s", law, x.Text(), y.Text())
		}
	}
	for _, a := range all {
		same("a - a", a.Sub(a), rat.Rat{})
		same("a + -a", a.Add(a.Neg()), rat.Of(0))
		same("a * 1", a.Mul(rat.Of(1)), a)
		for _, b := range all {
			same("a + b", a.Add(b), b.Add(a))
			same("a * b", a.Mul(b), b.Mul(a))
			same("a - b", a.Sub(b), a.Add(b.Neg()))
			same("a + b - b", a.Add(b).Sub(b), a)
			if q, e := a.Div(b); e == api.OK {
				same("a / b * b", q.Mul(b), a)
			}
			if a.Cmp(b) != -b.Cmp(a) || a.Cmp(b) != a.Sub(b).Sign() {
				t.Errorf("Cmp of %s, %s: %d", a.Text(), b.Text(), a.Cmp(b))
			}
			for _, c := range all {
				same("a + (b + c)", a.Add(b.Add(c)), a.Add(b).Add(c))
				same("a * (b * c)", a.Mul(b.Mul(c)), a.Mul(b).Mul(c))
				same("a * (b + c)", a.Mul(b.Add(c)), a.Mul(b).Add(a.Mul(c)))
			}
		}
	}
}

// whole is a whole number as a fraction.
func whole(t *testing.T, n num.Num) rat.Rat {
	t.Helper()
	got, e := rat.Make(n, num.Of(1))
	if e != api.OK {
		t.Fatal(n.Text(), e)
	}
	return got
}

func TestP34RoundedIsOffByHalf(t *testing.T) {
	half := parsed(t, "1/2")
	for _, n := range append(small(), great()...) {
		a := of(t, n)
		off := a.Sub(whole(t, a.Round()))
		if off.Cmp(half) > 0 || off.Cmp(half.Neg()) < 0 {
			t.Errorf("Round of %s: %s, off by %s", a.Text(), a.Round().Text(), off.Text())
		}
		down := a.Sub(whole(t, a.Floor()))
		if down.Sign() < 0 || down.Cmp(rat.Of(1)) >= 0 {
			t.Errorf("Floor of %s: %s, off by %s", a.Text(), a.Floor().Text(), down.Text())
		}
		back, e := rat.Make(a.Num(), a.Den())
		if e != api.OK || back.Cmp(a) != 0 {
			t.Errorf("%s made of its parts: %s", a.Text(), back.Text())
		}
	}
}
