package cert_test

import (
	"math"
	"slices"
	"strings"
	"testing"

	"noonbell/api"
	"noonbell/cert"
)

const billion = 1000000000

// example is the chapter's: the greatest 3 a + 2 b with a + b at most 4, a at
// most 2.
func example() cert.Problem {
	return cert.Problem{Rows: [][]int{{1, 1}, {1, 0}}, Rel: []int{-1, -1}, B: []int{4, 2}, C: []int{3, 2}}
}

// blank is a problem of so many rows and so many of C, all of them 0.
func blank(rows, columns int) cert.Problem {
	p := cert.Problem{Rel: make([]int, rows), B: make([]int, rows), C: make([]int, columns)}
	for range rows {
		p.Rows = append(p.Rows, make([]int, columns))
	}
	return p
}

// same is a list of so many of the text.
func same(text string, many int) []string {
	return slices.Repeat([]string{text}, many)
}

func words(line string) []string { return strings.Fields(line) }

// answer is what Value and Bound tell.
type answer struct {
	text string
	e    api.Errno
}

func valueOf(p cert.Problem, x []string) answer {
	text, e := cert.Value(p, x)
	return answer{text, e}
}

func boundOf(p cert.Problem, y []string) answer {
	text, e := cert.Bound(p, y)
	return answer{text, e}
}

func wantValue(t *testing.T, p cert.Problem, x []string, want answer) {
	t.Helper()
	if got := valueOf(p, x); got != want {
		t.Errorf("Value of %v, %q: %v, not %v", p, x, got, want)
	}
}

func wantBound(t *testing.T, p cert.Problem, y []string, want answer) {
	t.Helper()
	if got := boundOf(p, y); got != want {
		t.Errorf("Bound of %v, %q: %v, not %v", p, y, got, want)
	}
}

// wantCheck holds that Check answers so, and so do Value and Bound, whatever
// else is wrong, if that is an error.
func wantCheck(t *testing.T, p cert.Problem, want api.Errno) {
	t.Helper()
	if got := cert.Check(p); got != want {
		t.Errorf("Check of %v: error %d, not %d", p, got, want)
	}
	if want == api.OK {
		wantValue(t, p, same("0", len(p.C)), answer{text: "0"})
		wantBound(t, p, same("0", len(p.B)), answer{text: "0"})
		return
	}
	for _, text := range []string{"0", "1/2", "wrong", ""} {
		for _, more := range []int{0, 1} {
			wantValue(t, p, same(text, len(p.C)+more), answer{e: want})
			wantBound(t, p, same(text, len(p.B)+more), answer{e: want})
		}
	}
}

func TestP111Examples(t *testing.T) {
	p := example()
	wantCheck(t, p, api.OK)
	wantValue(t, p, words("2 2"), answer{text: "10"})
	wantBound(t, p, words("2 1"), answer{text: "10"})
}

func TestP111Shape(t *testing.T) {
	for name, spoil := range map[string]func(p *cert.Problem){
		"no Rows":               func(p *cert.Problem) { p.Rows = nil },
		"a row too few":         func(p *cert.Problem) { p.Rows = p.Rows[:1] },
		"a row too many":        func(p *cert.Problem) { p.Rows = append(p.Rows, []int{0, 0}) },
		"no Rel":                func(p *cert.Problem) { p.Rel = nil },
		"a Rel too few":         func(p *cert.Problem) { p.Rel = p.Rel[1:] },
		"a Rel too many":        func(p *cert.Problem) { p.Rel = append(p.Rel, 0) },
		"no B":                  func(p *cert.Problem) { p.B = nil },
		"a B too few":           func(p *cert.Problem) { p.B = p.B[1:] },
		"a B too many":          func(p *cert.Problem) { p.B = append(p.B, 0) },
		"Rel and B too few":     func(p *cert.Problem) { p.Rel, p.B = p.Rel[1:], p.B[1:] },
		"Rel more, B fewer":     func(p *cert.Problem) { p.Rel, p.B = append(p.Rel, 0), p.B[1:] },
		"Rows and Rel too many": func(p *cert.Problem) { p.Rows, p.Rel = append(p.Rows, []int{0, 0}), append(p.Rel, 0) },
		"Rows and B too few":    func(p *cert.Problem) { p.Rows, p.B = p.Rows[1:], p.B[1:] },
		"the first row short":   func(p *cert.Problem) { p.Rows[0] = []int{1} },
		"the last row short":    func(p *cert.Problem) { p.Rows[1] = []int{1} },
		"the first row long":    func(p *cert.Problem) { p.Rows[0] = []int{1, 1, 0} },
		"the last row long":     func(p *cert.Problem) { p.Rows[1] = []int{1, 1, 0} },
		"a row of none":         func(p *cert.Problem) { p.Rows[1] = nil },
		"all rows short":        func(p *cert.Problem) { p.Rows[0], p.Rows[1] = []int{1}, []int{1} },
		"C short":               func(p *cert.Problem) { p.C = p.C[:1] },
		"C long":                func(p *cert.Problem) { p.C = append(p.C, 0) },
		"no C":                  func(p *cert.Problem) { p.C = nil },
	} {
		t.Run(name, func(t *testing.T) {
			p := example()
			spoil(&p)
			wantCheck(t, p, api.ErrShape)
		})
	}
	wantCheck(t, cert.Problem{Rel: []int{0}}, api.ErrShape)
	wantCheck(t, cert.Problem{B: []int{0}}, api.ErrShape)
	wantCheck(t, cert.Problem{Rows: [][]int{nil}}, api.ErrShape)
	wantCheck(t, cert.Problem{Rel: []int{0}, B: []int{0}}, api.ErrShape)
}

func TestP111Many(t *testing.T) {
	wantCheck(t, cert.Problem{}, api.OK)
	wantCheck(t, cert.Problem{Rows: [][]int{}, Rel: []int{}, B: []int{}, C: []int{}}, api.OK)
	wantCheck(t, cert.Problem{Rows: [][]int{nil}, Rel: []int{1}, B: []int{2}}, api.OK)
	for _, n := range []int{0, 1, 63, 64} {
		for _, m := range []int{0, 1, 63, 64} {
			wantCheck(t, blank(n, m), api.OK)
		}
		for _, many := range []int{65, 66, 128, 1000} {
			wantCheck(t, blank(n, many), api.ErrMany)
			wantCheck(t, blank(many, n), api.ErrMany)
		}
	}
	wantCheck(t, blank(65, 65), api.ErrMany)
}

func TestP111Size(t *testing.T) {
	spots := map[string]func(p *cert.Problem, n int){
		"the first of Rows": func(p *cert.Problem, n int) { p.Rows[0][0] = n },
		"the last of a row": func(p *cert.Problem, n int) { p.Rows[0][2] = n },
		"the last of Rows":  func(p *cert.Problem, n int) { p.Rows[1][2] = n },
		"the first of B":    func(p *cert.Problem, n int) { p.B[0] = n },
		"the last of B":     func(p *cert.Problem, n int) { p.B[1] = n },
		"the first of C":    func(p *cert.Problem, n int) { p.C[0] = n },
		"the last of C":     func(p *cert.Problem, n int) { p.C[2] = n },
	}
	for name, put := range spots {
		t.Run(name, func(t *testing.T) {
			for _, n := range []int{0, 1, -1, billion - 1, billion, 1 - billion, -billion} {
				p := blank(2, 3)
				put(&p, n)
				wantCheck(t, p, api.OK)
			}
			for _, n := range []int{billion + 1, -billion - 1, math.MaxInt, math.MinInt} {
				p := blank(2, 3)
				put(&p, n)
				wantCheck(t, p, api.ErrMany)
			}
		})
	}
	// A row that is not the first, of 64.
	p := blank(64, 64)
	p.Rows[63][63] = billion + 1
	wantCheck(t, p, api.ErrMany)
}

func TestP111AnyRel(t *testing.T) {
	for _, rel := range []int{0, 1, -1, 2, -2, billion, billion + 1, -billion - 1, math.MaxInt, math.MinInt} {
		p := example()
		p.Rel = []int{rel, -rel}
		wantCheck(t, p, api.OK)
	}
}

func TestP111FirstError(t *testing.T) {
	// Lists of other lengths are told ahead of what is too many or too great.
	for _, rows := range []int{64, 66} {
		p := blank(65, 1)
		p.Rel = make([]int, rows)
		wantCheck(t, p, api.ErrShape)
		p = blank(65, 1)
		p.B = make([]int, rows)
		wantCheck(t, p, api.ErrShape)
	}
	p := blank(65, 65)
	p.Rows[64] = make([]int, 64)
	wantCheck(t, p, api.ErrShape)
	p = blank(2, 1)
	p.C = make([]int, 65)
	wantCheck(t, p, api.ErrShape)
	p = blank(2, 2)
	p.Rows[0][0], p.B[0], p.C[0] = billion+1, billion+1, billion+1
	wantCheck(t, p, api.ErrMany)
	p.Rows[1] = []int{0}
	wantCheck(t, p, api.ErrShape)

	// A list's length is told ahead of its texts.
	p = example()
	for _, l := range [][]string{nil, words("x"), words("x 1 1"), words("1 1 x"), words("1"), words("1 1 1")} {
		wantValue(t, p, l, answer{e: api.ErrShape})
		wantBound(t, p, l, answer{e: api.ErrShape})
	}
}

func TestP111Lengths(t *testing.T) {
	// Value goes by C, Bound by B.
	p := blank(2, 3)
	p.B, p.C = []int{1, 10}, []int{1, 10, 100}
	for n := range 6 {
		value, bound := answer{e: api.ErrShape}, answer{e: api.ErrShape}
		if n == 3 {
			value = answer{text: "222"}
		}
		if n == 2 {
			bound = answer{text: "22"}
		}
		wantValue(t, p, same("2", n), value)
		wantBound(t, p, same("2", n), bound)
	}
	p = blank(0, 0)
	wantValue(t, p, []string{}, answer{text: "0"})
	wantBound(t, p, []string{}, answer{text: "0"})
	wantValue(t, p, nil, answer{text: "0"})
	wantBound(t, p, nil, answer{text: "0"})
	wantValue(t, p, words("0"), answer{e: api.ErrShape})
	wantBound(t, p, words("0"), answer{e: api.ErrShape})
}

func TestP111Texts(t *testing.T) {
	p := blank(3, 3)
	p.B, p.C = []int{0, 1, 5}, []int{5, 0, 1}
	wrong := []string{
		"", " ", "x", "1x", "+1", "-0", "01", "1.5", "1e3", "--1", "1 ", " 1", "0x1", "1_0", "²",
		"2/4", "3/1", "0/1", "0/2", "1/0", "1/-2", "-2/-3", "1/", "/2", "/", "1/2/3", "1/02", "01/2", "1 /2", "-/2", "-1/+2",
	}
	for _, text := range wrong {
		for i := range 3 {
			l := words("1 2 3")
			l[i] = text
			wantValue(t, p, l, answer{e: api.ErrText})
			wantBound(t, p, l, answer{e: api.ErrText})
		}
	}
	for _, text := range []string{"0", "7", "-7", "1/2", "-1/2", "22/7", "123456789012345678901234567890", "-1/98765432109876543210"} {
		l := []string{"0", "1", text}
		wantValue(t, p, l, answer{text: text})
		l = []string{"1", text, "0"}
		wantBound(t, p, l, answer{text: text})
	}
}

func TestP111Sums(t *testing.T) {
	p := blank(3, 3)
	p.B, p.C = []int{1, -2, 3}, []int{-4, 5, 6}
	for _, c := range []struct{ list, value, bound string }{
		{"0 0 0", "0", "0"},
		{"1 0 0", "-4", "1"},
		{"0 1 0", "5", "-2"},
		{"0 0 1", "6", "3"},
		{"-1 -1 -1", "-7", "-2"},
		{"1/2 1/3 1/4", "7/6", "7/12"},
		{"1/2 1/3 1/6", "2/3", "1/3"},
		{"1/6 1/6 1/6", "7/6", "1/3"},
		{"1/7 1/7 -1/42", "0", "-3/14"},
		{"2/9 1/9 0", "-1/3", "0"},
		{"1/4 1/8 1/12", "1/8", "1/4"},
		{"1/4 1/6 1/10", "13/30", "13/60"},
		{"10000000000000000000000/3 1 1/3", "-39999999999999999999979/3", "9999999999999999999997/3"},
	} {
		wantValue(t, p, words(c.list), answer{text: c.value})
		wantBound(t, p, words(c.list), answer{text: c.bound})
	}
	// Neither hangs on the rows, or on what is Feasible or Dual.
	p.Rows[1] = []int{7, 8, 9}
	p.Rel = []int{1, -1, 0}
	wantValue(t, p, words("1 -1 0"), answer{text: "-9"})
	wantBound(t, p, words("1 -1 0"), answer{text: "3"})
	p.B, p.C = []int{billion, -billion, billion}, []int{billion, billion, -billion}
	wantValue(t, p, words("1000000000000 -1 1"), answer{text: "999999999998000000000"})
	wantBound(t, p, words("1000000000000 -1 1"), answer{text: "1000000000002000000000"})
}
