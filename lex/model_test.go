package lex_test

import (
	"math/rand/v2"
	"regexp"
	"slices"
	"strconv"
	"strings"
	"testing"

	"noonbell/api"
	"noonbell/lex"
)

// The chapter by another way than the program's: by patterns.
var (
	allowed  = regexp.MustCompile(`^[a-z\x{3B1}-\x{3C9}0-9, \-]*$`)
	spaced   = regexp.MustCompile(`^[^ ]+( [^ ]+)*$`)
	word     = regexp.MustCompile(`[^ ]+`)
	name     = regexp.MustCompile(`^[a-z\x{3B1}-\x{3C9}]{1,8}$`)
	decimals = regexp.MustCompile(`^(0|-?[1-9][0-9]*)$`)
)

func wordsOther(s string) ([]string, api.Errno) {
	words := word.FindAllString(s, -1)
	switch {
	case len(s) > 200:
		return nil, api.ErrSize
	case !allowed.MatchString(s):
		return nil, api.ErrRune
	case !spaced.MatchString(s):
		return nil, api.ErrWord
	case len(words) > 16:
		return nil, api.ErrMany
	}
	return words, api.OK
}

func numberOther(w string) (int, api.Errno) {
	n, err := strconv.ParseInt(w, 10, 64)
	if !decimals.MatchString(w) || err != nil || n > billion || n < -billion {
		return 0, api.ErrWord
	}
	return int(n), api.OK
}

func numbersOther(w string) ([]int, api.Errno) {
	var l []int
	for rest, more := w, true; more; {
		var text string
		text, rest, more = strings.Cut(rest, ",")
		n, e := numberOther(text)
		if e != api.OK {
			return nil, e
		}
		l = append(l, n)
	}
	if len(l) > 16 {
		return nil, api.ErrMany
	}
	return l, api.OK
}

// wantOther holds all calls that take s against the patterns, and tells the
// error of its words.
func wantOther(t *testing.T, s string) api.Errno {
	t.Helper()
	words, e := wordsOther(s)
	wantWords(t, s, e, words...)
	wantName(t, s, name.MatchString(s))
	n, ne := numberOther(s)
	wantNumber(t, s, n, ne)
	l, le := numbersOther(s)
	wantNumbers(t, s, le, l...)
	if e == api.OK && lex.Join(words) != s {
		t.Errorf("Join of the words of %s: %s", shown(s), shown(lex.Join(words)))
	}
	return e
}

// eachShort goes through all texts of at most so many of the pieces.
func eachShort(t *testing.T, pieces []string, most int) {
	texts := []string{""}
	for range most + 1 {
		var longer []string
		for _, s := range texts {
			wantOther(t, s)
			for _, p := range pieces {
				longer = append(longer, s+p)
			}
		}
		texts = longer
	}
}

func TestP81AndP82EachShortText(t *testing.T) {
	eachShort(t, []string{"a", "α", "0", "1", "-", ",", " ", "A", "\xce"}, 5)
	eachShort(t, []string{"0", "1", "9", "-", ",", "+"}, 6)
}

func somePieces(source *rand.Rand, pieces []string, n int) string {
	var b strings.Builder
	for range n {
		b.WriteString(pieces[source.IntN(len(pieces))])
	}
	return b.String()
}

// someText is mostly made of whole words or numbers, so that each error comes.
func someText(source *rand.Rand) string {
	switch source.IntN(4) {
	case 0:
		return somePieces(source, []string{"step ", "αβ ", "-5 ", "1,2 ", "x "}, source.IntN(21)) + somePieces(source, []string{"a", "a", " ", "\xff"}, 1)
	case 1:
		return somePieces(source, []string{"a", "b ", "ω", "-", ",", "9"}, source.IntN(200)) + "a"
	case 2:
		return somePieces(source, []string{"1,", "-20,", "1000000000,", "345,"}, source.IntN(20)) + somePieces(source, []string{"7", "7", "-7", "07", ""}, 1)
	}
	return somePieces(source, []string{"a", "0", "3", "-", ",", " ", "χ", "Χ", "\xcf", "\x87"}, source.IntN(12))
}

func TestP81AndP82AgainstThePatterns(t *testing.T) {
	source, seen := rand.New(rand.NewPCG(8, 1)), map[api.Errno]int{}
	for range 40000 {
		seen[wantOther(t, someText(source))]++
	}
	for _, e := range []api.Errno{api.OK, api.ErrSize, api.ErrRune, api.ErrWord, api.ErrMany} {
		if seen[e] < 300 {
			t.Errorf("error %d came %d times", e, seen[e])
		}
	}
}

// Each text of one digit changed, left out or put in, beside the bounds.
func TestP82NumberBesideTheBounds(t *testing.T) {
	for _, w := range []string{"1000000000", "999999999", "-1000000000", "-999999999", "0", "-1"} {
		for i := range len(w) + 1 {
			for _, c := range []string{"", "0", "1", "2", "9", "-"} {
				wantOther(t, w[:i]+c+w[i:])
				if i < len(w) {
					wantOther(t, w[:i]+c+w[i+1:])
				}
			}
		}
	}
}

func TestP84WordsOfJoin(t *testing.T) {
	for _, words := range [][]string{
		{"a"}, {"αβ", "-5"}, {"-", ",", "0"}, slices.Repeat([]string{"ω"}, 16), {strings.Repeat("a", 200)}, {strings.Repeat("ω", 100)},
		{strings.Repeat("a", 100), strings.Repeat("b", 99)},
	} {
		wantWords(t, lex.Join(words), api.OK, words...)
	}
	source, letters := rand.New(rand.NewPCG(8, 4)), []string{"a", "m", "z", "α", "ς", "ω", "0", "9", "-", ","}
	for range 20000 {
		words := make([]string, 1+source.IntN(16))
		for i := range words {
			words[i] = somePieces(source, letters, 1+source.IntN(5))
		}
		if s := lex.Join(words); len(s) <= 200 {
			wantWords(t, s, api.OK, words...)
		}
	}
}
