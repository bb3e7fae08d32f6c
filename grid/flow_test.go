package grid_test

import (
	"slices"
	"strings"
	"testing"

	"noonbell/api"
	"noonbell/grid"
)

// wantExport holds that Export answers these, twice; none beside an error.
func wantExport(t *testing.T, g api.Grid, e api.Errno, f []string, out ...string) {
	t.Helper()
	for range 2 {
		if got, err := grid.Export(g, f); err != e || !slices.Equal(got, out) {
			t.Errorf("Export of %+v, %q: %v, error %d, not %v, error %d", g, f, got, err, out, e)
		}
	}
}

func wantWithin(t *testing.T, g api.Grid, is bool, f ...string) {
	t.Helper()
	for range 2 {
		if got := grid.Within(g, f); got != is {
			t.Errorf("Within of %+v, %q: %t", g, f, got)
		}
	}
}

// notNumbers are texts that are no fraction's.
func notNumbers() []string {
	return []string{
		"", " ", "x", "-", "/", "+1", "-0", "00", "01", "-01", "007", " 1", "1 ", "1.0", "1e3", "--1", "1-", "1/", "/2", "1/0", "0/1", "0/5",
		"2/4", "3/1", "1/-2", "-1/-2", "1/02", "01/2", "1/2/3", "1 /2", "1/ 2", "1,2", "0x1", "1_0", "١", "\xff", "1\x00", "\n1", "1/1", "-2/2",
	}
}

func TestP142Examples(t *testing.T) {
	wantExport(t, gridOf(2, line(0, 1, 5)), api.OK, []string{"3/2"}, "3/2", "-3/2")
}

func TestP142Export(t *testing.T) {
	wantExport(t, gridOf(1), api.OK, nil, "0")
	wantExport(t, gridOf(2), api.OK, []string{}, "0", "0")
	wantExport(t, gridOf(3), api.OK, nil, "0", "0", "0")
	wantExport(t, gridOf(3, line(2, 1, 5)), api.OK, []string{"3/2"}, "0", "-3/2", "3/2")
	wantExport(t, gridOf(3, line(0, 2, 5)), api.OK, []string{"-7"}, "-7", "0", "7")
	wantExport(t, gridOf(3, line(2, 0, 5)), api.OK, []string{"-7"}, "7", "0", "-7")
	// Two from one zone, and a ring through which all goes on.
	wantExport(t, gridOf(3, line(0, 1, 5), line(0, 2, 5)), api.OK, []string{"1/2", "1/3"}, "5/6", "-1/2", "-1/3")
	wantExport(t, gridOf(3, line(0, 1, 5), line(1, 2, 5), line(2, 0, 5)), api.OK, []string{"2/7", "2/7", "2/7"}, "0", "0", "0")
	wantExport(t, gridOf(3, line(0, 1, 5), line(1, 2, 5), line(2, 0, 5)), api.OK, []string{"3", "1", "0"}, "3", "-2", "-1")
	// Several between the same two, either way.
	wantExport(t, gridOf(2, line(0, 1, 5), line(1, 0, 5), line(0, 1, 0)), api.OK, []string{"1/2", "1/3", "-1/6"}, "0", "0")
	wantExport(t, gridOf(2, line(0, 1, 5), line(0, 1, 5)), api.OK, []string{"1/2", "1/2"}, "1", "-1")
}

// How much a line may carry is Within's, not Export's.
func TestP142ExportBeyondCap(t *testing.T) {
	wantExport(t, gridOf(2, line(0, 1, 0)), api.OK, []string{"1"}, "1", "-1")
	wantExport(t, gridOf(2, line(0, 1, 5)), api.OK, []string{"-100000000000000000000000000001/2"},
		"-100000000000000000000000000001/2", "100000000000000000000000000001/2")
	nines := strings.Repeat("9", 3000)
	wantExport(t, gridOf(2, line(0, 1, 5), line(1, 0, 5)), api.OK, []string{nines, "-1"}, "1"+strings.Repeat("0", 3000), "-1"+strings.Repeat("0", 3000))
}

func TestP142ExportShape(t *testing.T) {
	for n := range 4 {
		lines := slices.Repeat([]api.Line{line(0, 1, 5)}, n)
		for m := range 6 {
			if m == n {
				continue
			}
			wantExport(t, gridOf(2, lines...), api.ErrShape, slices.Repeat([]string{"1"}, m))
			wantWithin(t, gridOf(2, lines...), false, slices.Repeat([]string{"1"}, m)...)
			// Both are so: the shape is told.
			wantExport(t, gridOf(2, lines...), api.ErrShape, slices.Repeat([]string{"x"}, m))
			wantWithin(t, gridOf(2, lines...), false, slices.Repeat([]string{"x"}, m)...)
		}
		wantExport(t, gridOf(2, lines...), api.ErrShape, slices.Repeat([]string{"0"}, 2000))
	}
	wantExport(t, gridOf(1), api.ErrShape, []string{""})
	wantExport(t, gridOf(1), api.ErrShape, []string{"0"})
}

func TestP142ExportText(t *testing.T) {
	g := gridOf(3, line(0, 1, 5), line(1, 2, 5), line(0, 2, 5))
	for _, bad := range notNumbers() {
		for i := range 3 {
			f := []string{"1", "1/2", "-3"}
			f[i] = bad
			wantExport(t, g, api.ErrText, f)
			wantWithin(t, g, false, f...)
		}
		wantExport(t, gridOf(2, line(1, 0, 0)), api.ErrText, []string{bad})
		wantWithin(t, gridOf(2, line(1, 0, 0)), false, bad)
	}
}

func TestP142Within(t *testing.T) {
	wantWithin(t, gridOf(1), true)
	wantWithin(t, gridOf(3), true)
	wantWithin(t, gridOf(1), false, "0")
	for _, way := range []api.Line{line(0, 1, 5), line(1, 0, 5)} {
		for _, f := range []string{"0", "1", "-1", "9/2", "-9/2", "5", "-5", "4999999999999/1000000000000", "-4999999999999/1000000000000"} {
			wantWithin(t, gridOf(2, way), true, f)
		}
		for _, f := range []string{"6", "-6", "11/2", "-11/2", "5000000000001/1000000000000", "-5000000000001/1000000000000", "100000000000000000000", "-100000000000000000000"} {
			wantWithin(t, gridOf(2, way), false, f)
		}
	}
}

func TestP142WithinCapsAtTheirLimits(t *testing.T) {
	wantWithin(t, gridOf(2, line(0, 1, 0)), true, "0")
	for _, f := range []string{"1", "-1", "1/1000000", "-1/1000000"} {
		wantWithin(t, gridOf(2, line(0, 1, 0)), false, f)
	}
	for _, f := range []string{"1000", "-1000", "1999/2", "-1999/2"} {
		wantWithin(t, gridOf(2, line(0, 1, 1000)), true, f)
	}
	for _, f := range []string{"1001", "-1001", "2001/2", "-2001/2"} {
		wantWithin(t, gridOf(2, line(0, 1, 1000)), false, f)
	}
}

// Each flow is held against its own line, none against another one's.
func TestP142WithinEachLine(t *testing.T) {
	g := gridOf(3, line(0, 1, 1), line(1, 2, 2), line(2, 0, 3))
	wantWithin(t, g, true, "1", "2", "3")
	wantWithin(t, g, true, "-1", "-2", "-3")
	wantWithin(t, g, true, "1", "-2", "0")
	wantWithin(t, g, false, "2", "1", "3")
	wantWithin(t, g, false, "3", "2", "1")
	wantWithin(t, g, false, "1", "3", "2")
	wantWithin(t, g, false, "1", "2", "7/2")
	wantWithin(t, g, false, "-3/2", "2", "3")
	wantWithin(t, g, false, "1", "-5/2", "3")
}

func TestR3ExportIsNewMemory(t *testing.T) {
	g := gridOf(2, line(0, 1, 5))
	f := []string{"3/2"}
	a, _ := grid.Export(g, f)
	b, _ := grid.Export(g, f)
	for i := range a[:cap(a)] {
		a[:cap(a)][i] = "gone"
	}
	f[0] = "changed"
	g.Lines[0] = line(1, 0, 7)
	if !slices.Equal(b, []string{"3/2", "-3/2"}) {
		t.Errorf("an answer shares memory: %v", b)
	}
}
