package lex_test

import (
	"strconv"
	"strings"
	"testing"

	"noonbell/api"
)

const billion = 1000000000

// notNumbers are texts that are no number's, for one reason each.
func notNumbers() []string {
	return []string{
		"", "-", "--", "+", "+1", "+0", "-+1", "+-1", "--1", "-1-", "1-", "1-1", "-0", "-00", "00", "000", "007", "-007", "01", "-01",
		"x", "1x", "x1", "-x", "a", "α", "1α", " ", " 1", "1 ", "- 1", "1 2", "1,", ",1", ",", "1,2", "1_000", "1.0", "1e3", "0x1", "0b1",
		"\x00", "1\x00", "\xff", "1\xff", "\xff1", "-\xff", "/", ":", "1/", "1:", "\u2212" + "1", "\u0661", "1\u0662", "\uff11", "\u00b2",
		"1000000001", "-1000000001", "1000000009", "1000000010", "-1000000010", "1100000000", "2000000000", "9999999999", "-9999999999",
		"10000000000", "10000000001", "-10000000000", "01000000000", "-01000000000", "00000000001", "0000000000",
	}
}

func TestP82Number(t *testing.T) {
	for n := -1100; n <= 1100; n++ {
		wantNumber(t, strconv.Itoa(n), n, api.OK)
	}
	for _, n := range []int{123456789, 987654321, 999999999, 999999990, 899999999, billion} {
		wantNumber(t, strconv.Itoa(n), n, api.OK)
		wantNumber(t, strconv.Itoa(-n), -n, api.OK)
	}
	for tens := 1; tens <= billion; tens *= 10 {
		for beside := -3; beside <= 3; beside++ {
			n, e := tens+beside, api.OK
			if n > billion {
				n, e = 0, api.ErrWord
			}
			wantNumber(t, strconv.Itoa(tens+beside), n, e)
			wantNumber(t, strconv.Itoa(-tens-beside), -n, e)
		}
	}
}

func TestP82NotANumber(t *testing.T) {
	for _, w := range notNumbers() {
		wantNumber(t, w, 0, api.ErrWord)
	}
}

// Numbers that would be small ones if they were wrapped round, or if digits of
// them were left out.
func TestP82NumberOfManyDigits(t *testing.T) {
	for _, w := range []string{
		"2147483647", "2147483648", "4294967295", "4294967296", "4294967297", "5294967296",
		"9223372036854775807", "9223372036854775808", "18446744073709551615", "18446744073709551616", "18446744073709551617",
		"18446744074709551616", "36893488147419103233", "184467440737095516160", "340282366920938463463374607431768211457",
		"1" + strings.Repeat("0", 10), "1" + strings.Repeat("0", 64), "1" + strings.Repeat("0", 4000),
		strings.Repeat("9", 19), strings.Repeat("9", 20), strings.Repeat("1", 4000), strings.Repeat("0", 4000), strings.Repeat("0", 4000) + "1",
		strings.Repeat("1", 4000) + "x", "x" + strings.Repeat("1", 4000),
	} {
		wantNumber(t, w, 0, api.ErrWord)
		wantNumber(t, "-"+w, 0, api.ErrWord)
		wantNumbers(t, "1,"+w, api.ErrWord)
	}
}

func TestP82Numbers(t *testing.T) {
	for w, l := range map[string][]int{
		"0":                              {0},
		"-1":                             {-1},
		"1,2":                            {1, 2},
		"0,0,0":                          {0, 0, 0},
		"1,-2,3":                         {1, -2, 3},
		"3,1,2,1":                        {3, 1, 2, 1},
		"1000000000,-1000000000":         {billion, -billion},
		"-7,10,0,999999999,-100,5,5,-1":  {-7, 10, 0, 999999999, -100, 5, 5, -1},
		"1,2,3,4,5,6,7,8,9,10,11,12,13":  {1, 2, 3, 4, 5, 6, 7, 8, 9, 10, 11, 12, 13},
		"-1000000000,0,0,0,0,1000000000": {-billion, 0, 0, 0, 0, billion},
	} {
		wantNumbers(t, w, api.OK, l...)
	}
}

// An empty text is no number: between two commas, ahead, behind, or alone.
func TestP82NumbersNoneAmongThem(t *testing.T) {
	for _, w := range []string{"", ",", ",,", "1,", ",1", "1,,2", ",1,2", "1,2,", ",1,", "1,2,,", "1,,,2", "1 2", "1, 2", "1 ,2", "1;2", "1.2"} {
		wantNumbers(t, w, api.ErrWord)
	}
	for _, bad := range notNumbers() {
		if strings.Contains(bad, ",") {
			continue
		}
		for _, w := range []string{bad, "1," + bad, bad + ",1", "-5," + bad + ",7"} {
			wantNumbers(t, w, api.ErrWord)
		}
	}
}

func TestP82NumbersMany(t *testing.T) {
	for n := 1; n <= 40; n++ {
		for _, one := range []int{0, -3, billion} {
			w := repeated(strconv.Itoa(one), n, ",")
			if n > 16 {
				wantNumbers(t, w, api.ErrMany)
				continue
			}
			l := make([]int, n)
			for i := range l {
				l[i] = one
			}
			wantNumbers(t, w, api.OK, l...)
		}
	}
	wantNumbers(t, repeated("1", 2000, ","), api.ErrMany)
}

// Where one is no number, that is told, wherever it stands among too many.
func TestP82NumbersWhichError(t *testing.T) {
	for _, bad := range []string{"", "x", "-0", "007", "1000000001", "\xff"} {
		for _, n := range []int{15, 16, 17, 18, 40, 2000} {
			all := repeated("1", n, ",")
			wantNumbers(t, all+","+bad, api.ErrWord)
			wantNumbers(t, bad+","+all, api.ErrWord)
			wantNumbers(t, all+","+bad+","+all, api.ErrWord)
		}
	}
}
