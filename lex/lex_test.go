package lex_test

import (
	"slices"
	"strconv"
	"strings"
	"testing"
	"unicode/utf8"
	"unsafe"

	"noonbell/api"
	"noonbell/lex"
)

// shown is a text as a fault tells it.
func shown(s string) string {
	if len(s) > 60 {
		return strconv.QuoteToASCII(s[:60]) + ".. of " + strconv.Itoa(len(s)) + " bytes"
	}
	return strconv.QuoteToASCII(s)
}

// wantWords holds that Words answers these, twice; none beside an error.
func wantWords(t *testing.T, s string, e api.Errno, words ...string) {
	t.Helper()
	for range 2 {
		if got, err := lex.Words(s); err != e || !slices.Equal(got, words) {
			t.Errorf("Words of %s: %q, error %d, not %q, error %d", shown(s), got, err, words, e)
		}
	}
}

func wantName(t *testing.T, w string, is bool) {
	t.Helper()
	if got := lex.Name(w); got != is {
		t.Errorf("Name of %s: %t", shown(w), got)
	}
}

func wantNumber(t *testing.T, w string, n int, e api.Errno) {
	t.Helper()
	if got, err := lex.Number(w); got != n || err != e {
		t.Errorf("Number of %s: %d, error %d, not %d, error %d", shown(w), got, err, n, e)
	}
}

func wantNumbers(t *testing.T, w string, e api.Errno, l ...int) {
	t.Helper()
	for range 2 {
		if got, err := lex.Numbers(w); err != e || !slices.Equal(got, l) {
			t.Errorf("Numbers of %s: %v, error %d, not %v, error %d", shown(w), got, err, l, e)
		}
	}
}

// repeated is w so many times, with that between.
func repeated(w string, n int, between string) string {
	return strings.Join(slices.Repeat([]string{w}, n), between)
}

func TestP81Examples(t *testing.T) {
	wantWords(t, "step 1 0", api.OK, "step", "1", "0")
	wantWords(t, " step", api.ErrWord)
	wantWords(t, "Step", api.ErrRune)
	wantWords(t, "αβ -5", api.OK, "αβ", "-5")
}

func TestP81Words(t *testing.T) {
	for s, words := range map[string][]string{
		"a":                        {"a"},
		"ω":                        {"ω"},
		"0":                        {"0"},
		"-":                        {"-"},
		",":                        {","},
		"- ,":                      {"-", ","},
		",,- --":                   {",,-", "--"},
		"az09αω-, z":               {"az09αω-,", "z"},
		"block 2 1 sell 5 1,2 0 9": {"block", "2", "1", "sell", "5", "1,2", "0", "9"},
		"abcdefghijklmnopqrstuvwxyz αβγδεζηθικλμνξοπρςστυφχψω 0123456789": {
			"abcdefghijklmnopqrstuvwxyz", "αβγδεζηθικλμνξοπρςστυφχψω", "0123456789"},
	} {
		wantWords(t, s, api.OK, words...)
	}
}

// badRunes are texts with a rune that may not stand there, or bytes of none.
func badRunes() []string {
	return []string{
		"A", "Z", "`", "{", "\u03b0", "\u03ca", "Α", "Ω", "ά", "é", "/", ":", "_", "+", ".", ";", "\x00", "\x7f",
		"\t", "\n", "\r", "\v", "\u00a0", "\u2003", "\u2010", "\u2212", "\u0660", "\uff11", "\uff41", "\u0301",
		"\ufffd", "\ufeff", "\U0001d6c2", "\U0010ffff",
		"\xff", "\xfe", "\x80", "\xb1", "\xce", "\xcf", "\xce\xce\xb1", "\xb1\xce", "\xc1\xa1", "\xe0\x8e\xb1",
		"\xed\xa0\x80", "\xf4\x90\x80\x80", "\xf0\x9d\x9b",
	}
}

func TestP81BadRunes(t *testing.T) {
	for _, bad := range badRunes() {
		for _, s := range []string{bad, "a" + bad, bad + "a", "a " + bad, bad + " a", "a " + bad + " 1", "αβ" + bad + "γ"} {
			wantWords(t, s, api.ErrRune)
		}
	}
}

// Each rune that there is, alone and within a word.
func TestP81EachRune(t *testing.T) {
	for r := range rune(utf8.MaxRune + 1) {
		letter := strings.ContainsRune("abcdefghijklmnopqrstuvwxyzαβγδεζηθικλμνξοπρςστυφχψω", r)
		s := string(r)
		got, e := lex.Words(s)
		within, withinE := lex.Words("a" + s + "0")
		switch {
		case letter || strings.ContainsRune("0123456789-,", r):
			if e != api.OK || !slices.Equal(got, []string{s}) || withinE != api.OK || !slices.Equal(within, []string{"a" + s + "0"}) {
				t.Errorf("U+%04X: %q, error %d; within a word %q, error %d", r, got, e, within, withinE)
			}
		case r == ' ':
			if e != api.ErrWord || len(got) > 0 || withinE != api.OK || !slices.Equal(within, []string{"a", "0"}) {
				t.Errorf("the blank: %q, error %d; between %q, error %d", got, e, within, withinE)
			}
		case e != api.ErrRune || withinE != api.ErrRune || len(got) > 0 || len(within) > 0:
			t.Errorf("U+%04X: error %d, within a word %d", r, e, withinE)
		}
		if lex.Name(s) != letter || lex.Name("a"+s+"ω") != letter {
			t.Errorf("U+%04X: Name %t, within a name %t", r, lex.Name(s), lex.Name("a"+s+"ω"))
		}
	}
}

func TestP81Blanks(t *testing.T) {
	for _, s := range []string{
		"", " ", "  ", " a", "a ", " a ", "  a", "a  ", "a  b", "a   b", "a b  c", " a b", "a b ", "α  β", " α", "α ",
		strings.Repeat(" ", 15), strings.Repeat(" ", 16), strings.Repeat(" ", 17), strings.Repeat(" ", 200),
	} {
		wantWords(t, s, api.ErrWord)
	}
}

// The size is told in bytes, of which a Greek letter has two.
func TestP81Size(t *testing.T) {
	if api.MaxLine != 200 {
		t.Errorf("MaxLine is %d", api.MaxLine)
	}
	for _, s := range []string{strings.Repeat("a", 199), strings.Repeat("a", 200), strings.Repeat("α", 100), "a" + strings.Repeat("ω", 99) + "-"} {
		wantWords(t, s, api.OK, s)
	}
	half := strings.Repeat("b", 99)
	wantWords(t, half+" "+half+"1", api.OK, half, half+"1")
	for _, s := range []string{
		strings.Repeat("a", 201), strings.Repeat("a", 202), strings.Repeat("α", 100) + "a", strings.Repeat("α", 101),
		half + " " + half + "12", strings.Repeat("a", 4000), strings.Repeat("α", 150),
	} {
		wantWords(t, s, api.ErrSize)
	}
}

func TestP81Many(t *testing.T) {
	for n := 1; n <= 16; n++ {
		for _, w := range []string{"a", "α", "-1", ",", "step"} {
			wantWords(t, repeated(w, n, " "), api.OK, slices.Repeat([]string{w}, n)...)
		}
	}
	long := slices.Repeat([]string{strings.Repeat("x", 11)}, 15)
	long = append(long, strings.Repeat("y", 20))
	wantWords(t, strings.Join(long, " "), api.OK, long...)
	for _, n := range []int{17, 18, 32, 33, 100} {
		wantWords(t, repeated("a", n, " "), api.ErrMany)
	}
	for _, n := range []int{17, 18, 66} {
		wantWords(t, repeated("α", n, " "), api.ErrMany)
	}
}

// Where several errors apply, the first that the promise names is told.
func TestP81WhichError(t *testing.T) {
	long, many := strings.Repeat("a", 201), repeated("a", 17, " ")
	for _, c := range []struct {
		what, s string
		e       api.Errno
	}{
		{"too long, a bad rune ahead", "A" + long, api.ErrSize},
		{"too long, a bad rune behind", long + "\xff", api.ErrSize},
		{"too long by a bad rune", strings.Repeat("a", 200) + "A", api.ErrSize},
		{"too long, bad bytes alone", strings.Repeat("\xff", 201), api.ErrSize},
		{"too long, blanks", strings.Repeat(" ", 201), api.ErrSize},
		{"too long, two blanks", long + "  a", api.ErrSize},
		{"too long, too many", repeated("a", 101, " "), api.ErrSize},
		{"all of them", "A  " + repeated("a", 120, " ") + " ", api.ErrSize},
		{"a bad rune behind a blank ahead", " aA", api.ErrRune},
		{"a bad rune behind two blanks", "a  A", api.ErrRune},
		{"a bad rune ahead of a blank behind", "A ", api.ErrRune},
		{"a bad rune behind too many", many + " A", api.ErrRune},
		{"a bad rune as the last of too many", many + "\xff", api.ErrRune},
		{"a bad rune, blanks, too many", " " + many + "  A", api.ErrRune},
		{"the longest, half a rune behind", strings.Repeat("a", 199) + "\xce", api.ErrRune},
		{"too many, a blank behind", many + " ", api.ErrWord},
		{"too many, a blank ahead", " " + many, api.ErrWord},
		{"too many, two blanks behind them", many + "  a", api.ErrWord},
		{"16, a blank behind", repeated("a", 16, " ") + " ", api.ErrWord},
		{"16, a blank ahead", " " + repeated("a", 16, " "), api.ErrWord},
	} {
		t.Run(c.what, func(t *testing.T) { wantWords(t, c.s, c.e) })
	}
}

func TestP82Examples(t *testing.T) {
	wantName(t, "αβ", true)
	wantName(t, "a1", false)
	wantNumber(t, "-0", 0, api.ErrWord)
	wantNumber(t, "007", 0, api.ErrWord)
	wantNumbers(t, "1,2", api.OK, 1, 2)
	wantNumbers(t, "1,", api.ErrWord)
}

func TestP82Name(t *testing.T) {
	if api.MaxName != 8 {
		t.Errorf("MaxName is %d", api.MaxName)
	}
	for n := 1; n <= 40; n++ {
		for _, r := range []string{"a", "z", "α", "ω", "ς"} {
			wantName(t, strings.Repeat(r, n), n <= 8)
		}
	}
	for _, w := range []string{"abcdefgh", "αβγδεζηθ", "aαbβcγdδ", "zωzωzωzω", "step"} {
		wantName(t, w, true)
	}
	for _, w := range []string{
		"", " ", "a b", " a", "a ", "abcdefghi", "αβγδεζηθι", "aαbβcγdδe", "a-b", "-", ",", "a,b", "0", "1", "a0", "0a",
		strings.Repeat("a", 4000), strings.Repeat("ω", 2000), "abcdefgh\xff", "abcdefgh1",
	} {
		wantName(t, w, false)
	}
	for _, bad := range badRunes() {
		for _, w := range []string{bad, "a" + bad, bad + "a", "α" + bad + "β", "abcdefg" + bad} {
			wantName(t, w, false)
		}
	}
}

func TestP83Join(t *testing.T) {
	for _, c := range []struct {
		words []string
		s     string
	}{
		{nil, ""},
		{[]string{}, ""},
		{[]string{""}, ""},
		{[]string{"a"}, "a"},
		{[]string{"a", "b"}, "a b"},
		{[]string{"step", "1", "0"}, "step 1 0"},
		{[]string{"αβ", "-5", ",", "ω"}, "αβ -5 , ω"},
		{[]string{"", ""}, " "},
		{[]string{"", "a", "", "b", ""}, " a  b "},
		{[]string{" ", "a b", "\xff", "A\x00"}, "  a b \xff A\x00"},
		{slices.Repeat([]string{"a"}, 17), repeated("a", 17, " ")},
		{slices.Repeat([]string{"αβ"}, 2000), repeated("αβ", 2000, " ")},
		{[]string{strings.Repeat("a", 4000), "b"}, strings.Repeat("a", 4000) + " b"},
	} {
		for range 2 {
			if got := lex.Join(c.words); got != c.s {
				t.Errorf("Join of %d words: %s, not %s", len(c.words), shown(got), shown(c.s))
			}
		}
	}
}

// inside tells whether a byte of the one text lies where one of the other's
// does.
func inside(a, b string) bool {
	from, other := uintptr(unsafe.Pointer(unsafe.StringData(a))), uintptr(unsafe.Pointer(unsafe.StringData(b)))
	return from < other+uintptr(len(b)) && other < from+uintptr(len(a))
}

func TestP81MemoryOfWords(t *testing.T) {
	for _, s := range []string{"step 1 0", "step", "αβ -5", "aa aa"} {
		a, _ := lex.Words(s)
		b, _ := lex.Words(s)
		want := slices.Clone(b)
		for i, w := range a {
			if inside(w, s) {
				t.Errorf("word %d of %s lies within it", i, shown(s))
			}
			a[i] = "changed"
		}
		_ = append(a[:cap(a)], "more")
		if !slices.Equal(b, want) {
			t.Errorf("Words of %s share memory: %q", shown(s), b)
		}
		wantWords(t, s, api.OK, want...)
	}
}

func TestP82MemoryOfNumbers(t *testing.T) {
	a, _ := lex.Numbers("1,2,3")
	b, _ := lex.Numbers("1,2,3")
	for i := range a[:cap(a)] {
		a[:cap(a)][i] = 9
	}
	if !slices.Equal(b, []int{1, 2, 3}) {
		t.Errorf("Numbers share memory: %v", b)
	}
	wantNumbers(t, "1,2,3", api.OK, 1, 2, 3)
}

func TestP83MemoryOfJoin(t *testing.T) {
	for n := range 4 {
		behind := []string{"ab", "αβ", "12", "x", "y"}
		s := lex.Join(behind[:n])
		if !slices.Equal(behind, []string{"ab", "αβ", "12", "x", "y"}) {
			t.Errorf("Join of %d: what is handed in has changed: %q", n, behind)
		}
		for _, w := range behind {
			if inside(w, s) {
				t.Errorf("Join of %d lies within %s", n, shown(w))
			}
		}
		was := strings.Clone(s)
		for i := range behind {
			behind[i] = "changed"
		}
		if s != was {
			t.Errorf("Join of %d has changed: %s", n, shown(s))
		}
	}
}
