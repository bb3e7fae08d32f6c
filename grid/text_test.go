package grid_test

import (
	"slices"
	"strings"
	"testing"

	"noonbell/api"
	"noonbell/grid"
)

// wantText holds that the two are each other's Print and Parse, twice.
func wantText(t *testing.T, g api.Grid, s string) {
	t.Helper()
	for range 2 {
		if got := grid.Print(g); got != s {
			t.Errorf("Print of %+v: %q, not %q", g, got, s)
		}
		if got, e := grid.Parse(s); e != api.OK || !sameGrid(got, g) {
			t.Errorf("Parse of %q: %+v, error %d, not %+v", s, got, e, g)
		}
	}
}

// wantForm holds that Parse refuses the text, and answers nothing beside.
func wantForm(t *testing.T, s string) {
	t.Helper()
	for range 2 {
		if got, e := grid.Parse(s); e != api.ErrForm || !sameGrid(got, api.Grid{}) {
			t.Errorf("Parse of %q: %+v, error %d", s, got, e)
		}
	}
}

func TestP144Examples(t *testing.T) {
	wantText(t, gridOf(3, line(2, 1, 5)), "grid 3 1 0 10 2 1 5")
}

func TestP144PrintAndParse(t *testing.T) {
	wantText(t, api.Grid{Zones: 1, Hours: 1}, "grid 1 1 0 0")
	wantText(t, api.Grid{Zones: 2, Hours: 3, Low: -500, High: 3000}, "grid 2 3 -500 3000")
	wantText(t, api.Grid{Zones: 1, Hours: 2, Low: -7, High: -7}, "grid 1 2 -7 -7")
	wantText(t, api.Grid{Zones: 2, Hours: 1, High: 9, Lines: []api.Line{line(0, 1, 0)}}, "grid 2 1 0 9 0 1 0")
	wantText(t, api.Grid{Zones: 2, Hours: 1, High: 9, Lines: []api.Line{line(1, 0, 3), line(0, 1, 1000)}}, "grid 2 1 0 9 1 0 3 0 1 1000")
	// The longest one.
	full := []api.Line{line(0, 1, 1000), line(2, 1, 1000), line(2, 0, 1000)}
	wantText(t, api.Grid{Zones: 3, Hours: 3, Low: -100000, High: 100000, Lines: full}, "grid 3 3 -100000 100000 0 1 1000 2 1 1000 2 0 1000")
	wantText(t, api.Grid{Zones: 3, Hours: 3, Low: -100000, High: -100000, Lines: full}, "grid 3 3 -100000 -100000 0 1 1000 2 1 1000 2 0 1000")
}

// Lines of the same zones stay as many, and in their order.
func TestP144OrderOfLines(t *testing.T) {
	wantText(t, gridOf(2, line(0, 1, 2), line(0, 1, 1), line(1, 0, 2)), "grid 2 1 0 10 0 1 2 0 1 1 1 0 2")
	wantText(t, gridOf(2, line(1, 0, 2), line(0, 1, 2), line(0, 1, 2)), "grid 2 1 0 10 1 0 2 0 1 2 0 1 2")
}

func TestP144HowManyWords(t *testing.T) {
	words := strings.Split("grid 3 1 0 10 0 1 5 2 1 6 0 2 7", " ")
	for n := range len(words) + 1 {
		s := strings.Join(words[:n], " ")
		if n == 5 || n == 8 || n == 11 || n == 14 {
			wantText(t, gridOf(3, []api.Line{line(0, 1, 5), line(2, 1, 6), line(0, 2, 7)}[:(n-5)/3]...), s)
		} else {
			wantForm(t, s)
		}
	}
	for _, s := range []string{" 1", " 1 0", " 1 0 8", " 1 0 8 0 1 5", strings.Repeat(" 0 1 5", 100)} {
		wantForm(t, strings.Join(words, " ")+s)
	}
	for _, s := range []string{"", " ", "grid ", "gridgrid", "3 1 0 10", "3 1 0 10 2 1 5", "grid grid 3 1 0 10", "grid 3 1 0 10 grid"} {
		wantForm(t, s)
	}
}

func TestP144Verb(t *testing.T) {
	for _, verb := range []string{"Grid", "GRID", "gri", "grids", "rid", "net", "step", "0", "1", "-", "γριδ", "gríd", "", "grid,", "\xffgrid"} {
		wantForm(t, verb+" 3 1 0 10 2 1 5")
		wantForm(t, verb+" 1 1 0 0")
	}
}

func TestP144Blanks(t *testing.T) {
	for _, s := range []string{"grid 3 1 0 10 2 1 5", "grid 2 3 -500 3000"} {
		wantForm(t, " "+s)
		wantForm(t, s+" ")
		for i := range len(s) {
			if s[i] != ' ' {
				continue
			}
			for _, between := range []string{"", "  ", "\t", "\n", ",", "\u00a0", " \n", "\x00"} {
				wantForm(t, s[:i]+between+s[i+1:])
			}
		}
		wantForm(t, s+"\n")
		wantForm(t, s+"\x00")
		wantForm(t, s+",")
		wantForm(t, s+" -")
	}
}

// Each number at its place in other forms, which are no number's text, or too
// great for any.
func TestP144Numbers(t *testing.T) {
	words := strings.Split("grid 3 1 2 10 2 1 5", " ")
	for i := 1; i < len(words); i++ {
		w := words[i]
		for _, bad := range []string{
			"", "x", "-", "+" + w, "0" + w, "00" + w, "-" + "0" + w, "--" + w, w + "-", w + "x", "x" + w, w + ".0", w + ",0", w + "/1", "0x" + w, w + "e0",
			"-0", "00", "+0", "1000000001", "4294967299", "18446744073709551617", "18446744073709551619", "9223372036854775808",
			"-9223372036854775809", strings.Repeat("9", 50), strings.Repeat("9", 180), strings.Repeat("9", 300), "\uff11", "\u0661", "buy", "α",
		} {
			line := slices.Clone(words)
			line[i] = bad
			wantForm(t, strings.Join(line, " "))
		}
		if i < 3 || i > 4 {
			line := slices.Clone(words)
			line[i] = "-" + w
			wantForm(t, strings.Join(line, " "))
		}
	}
}

// What Check refuses has no Parse.
func TestP144GridsThatMayNotBe(t *testing.T) {
	for _, s := range []string{
		"grid 0 1 0 10", "grid 4 1 0 10", "grid -1 1 0 10", "grid 1 0 0 10", "grid 1 4 0 10", "grid 1 -1 0 10",
		"grid 1 1 1 0", "grid 1 1 10 9", "grid 1 1 0 -1", "grid 1 1 -100001 0", "grid 1 1 0 100001", "grid 1 1 100001 100001", "grid 1 1 -100001 -100001",
		"grid 1 1 0 10 0 0 5", "grid 1 1 0 10 0 1 5", "grid 2 1 0 10 0 0 5", "grid 2 1 0 10 1 1 5", "grid 2 1 0 10 0 2 5", "grid 2 1 0 10 2 0 5",
		"grid 2 1 0 10 -1 0 5", "grid 2 1 0 10 0 -1 5", "grid 3 1 0 10 0 3 5", "grid 2 1 0 10 0 1 -1", "grid 2 1 0 10 0 1 1001", "grid 2 1 0 10 0 1 1000000000",
		"grid 2 1 0 10 0 1 1 0 1 1 0 1 1001", "grid 2 1 0 10 0 1 1 0 0 1 0 1 1",
	} {
		wantForm(t, s)
	}
	for _, g := range refused() {
		wantForm(t, grid.Print(g))
	}
}

func TestP144NoUTF8(t *testing.T) {
	s := "grid 3 1 0 10 2 1 5"
	for i := range len(s) + 1 {
		for _, bad := range []string{"\xff", "\x80", "\xce", "\xce\xb1", "\ufffd", "\u0660"} {
			wantForm(t, s[:i]+bad+s[i:])
		}
	}
}

func TestR3ParseIsNewMemory(t *testing.T) {
	s := "grid 3 1 0 10 2 1 5 0 1 6"
	a, _ := grid.Parse(s)
	b, _ := grid.Parse(s)
	room := a.Lines[:cap(a.Lines)]
	for i := range room {
		room[i] = line(9, 9, 9)
	}
	if !slices.Equal(b.Lines, []api.Line{line(2, 1, 5), line(0, 1, 6)}) {
		t.Errorf("an answer shares another one's memory: %v", b.Lines)
	}
	wantText(t, b, s)
}
