package record_test

import (
	"encoding/binary"
	"math"
	"math/rand/v2"
	"slices"
	"strings"
	"testing"

	"noonbell/api"
	"noonbell/record"
)

// reader reads a text by the library's means, and is not strict: what it read
// is only then there if its form is.
type reader struct {
	s   string
	bad bool
}

func (r *reader) bytes(n int) string {
	if n > len(r.s) {
		r.bad = true
		n = 0
	}
	s := r.s[:n]
	r.s = r.s[n:]
	return s
}

func (r *reader) count(width int) int {
	b := make([]byte, 8)
	copy(b[8-width:], r.bytes(width))
	return int(binary.BigEndian.Uint64(b))
}

func (r *reader) number() int {
	n, many := binary.Varint([]byte(r.s))
	if many <= 0 {
		r.bad = true
		return 0
	}
	r.bytes(many)
	return int(n)
}

func (r *reader) record() api.Record {
	var got api.Record
	got.Kind = r.count(1)
	got.Who = r.bytes(r.count(1))
	for range r.count(1) {
		got.Nums = append(got.Nums, r.number())
	}
	got.Text = r.bytes(r.count(2))
	return got
}

// decodeOther is Decode another way: a record is there if its form, made
// anew, is what stands there.
func decodeOther(s string) ([]api.Record, int) {
	var l []api.Record
	n := 0
	for {
		in := reader{s: s[n:]}
		r := in.record()
		if in.bad || r.Kind == 0 || len(r.Who) > 64 || len(r.Nums) > 64 || len(r.Text) > 16384 {
			return l, n
		}
		if !strings.HasPrefix(s[n:], formOf(r)) {
			return l, n
		}
		l = append(l, r)
		n += len(formOf(r))
	}
}

func wantOther(t *testing.T, what, s string) {
	t.Helper()
	l, n := decodeOther(s)
	wantDecode(t, what, s, n, l...)
}

func TestP62DecodeNothing(t *testing.T) {
	long := strings.Repeat("x", 70000)
	for _, c := range []struct{ what, s string }{
		{"the empty text", ""},
		{"a kind of 0", unhex("00 00 00 00 00")},
		{"a kind of 0 ahead of a record", unhex("00 01 00 00 00 00")},
		{"zeros", strings.Repeat("\x00", 300)},
		{"a kind alone", "\x01"},
		{"Who of 65", "\x01\x41" + long[:65] + "\x00\x00\x00"},
		{"Who of 255", "\x01\xff" + long[:255] + "\x00\x00\x00"},
		{"Who that is cut", "\x01\x05" + long[:4]},
		{"65 Nums", "\x01\x00\x41" + strings.Repeat("\x00", 65) + "\x00\x00"},
		{"255 Nums", "\x01\x00\xff" + strings.Repeat("\x00", 255) + "\x00\x00"},
		{"Text of 16385", "\x01\x00\x00\x40\x01" + long[:16385]},
		{"Text of 65535", "\x01\x00\x00\xff\xff" + long[:65535]},
		{"Text of 256 and one byte too few", "\x01\x00\x00\x01\x00" + long[:255]},
		{"0 in two groups", unhex("01 00 01 80 00 00 00")},
		{"-1 in two groups", unhex("01 00 01 81 00 00 00")},
		{"63 in three groups", unhex("01 00 01 FE 80 00 00 00")},
		{"64 in three groups", unhex("01 00 01 80 81 00 00 00")},
		{"the greatest int in eleven groups", unhex("01 00 01 FE FF FF FF FF FF FF FF FF 81 00 00 00")},
		{"0 in twelve groups", unhex("01 00 01 80 80 80 80 80 80 80 80 80 80 80 00 00 00")},
		{"a bit too many", unhex("01 00 01 FE FF FF FF FF FF FF FF FF 03 00 00")},
		{"a bit too many that stands alone", unhex("01 00 01 80 80 80 80 80 80 80 80 80 02 00 00")},
		{"the highest group's highest bit", unhex("01 00 01 80 80 80 80 80 80 80 80 80 40 00 00")},
		{"2 to the 70", unhex("01 00 01 80 80 80 80 80 80 80 80 80 80 01 00 00")},
		{"2 to the 448, and a number that would do", unhex("01 00 01") + strings.Repeat("\x80", 64) + "\x01\x00\x00"},
		{"groups without end", "\x01\x00\x01" + strings.Repeat("\x80", 300)},
		{"full groups without end", "\x01\x00\x01" + strings.Repeat("\xff", 300)},
	} {
		wantDecode(t, c.what, c.s, 0)
		wantOther(t, c.what, c.s)
		first := api.Record{Kind: 1, Who: "a"}
		s := formOf(first)
		wantDecode(t, c.what+" behind a record", s+c.s, len(s), first)
		wantOther(t, c.what+" ahead of a record", c.s+s)
	}
}

func TestP62DecodeEdges(t *testing.T) {
	for what, r := range right() {
		wantDecode(t, what, formOf(r), len(formOf(r)), r)
		wantDecode(t, what+", twice", formOf(r)+formOf(r), 2*len(formOf(r)), r, r)
	}
	for kind := 1; kind <= 255; kind++ {
		s := string([]byte{byte(kind), 0, 0, 0, 0})
		wantDecode(t, "a kind", s, 5, api.Record{Kind: kind})
	}
}

func TestP62AllCounts(t *testing.T) {
	long := strings.Repeat("\x00", 70000)
	for n := range 256 {
		who := "\x01" + string([]byte{byte(n)}) + long[:n] + "\x00\x00\x00"
		nums := "\x01\x00" + string([]byte{byte(n)}) + long[:n] + "\x00\x00"
		if n <= 64 {
			wantDecode(t, "Who", who, len(who), api.Record{Kind: 1, Who: long[:n]})
			wantDecode(t, "Nums", nums, len(nums), api.Record{Kind: 1, Nums: make([]int, n)})
			continue
		}
		wantDecode(t, "Who", who, 0)
		wantDecode(t, "Nums", nums, 0)
	}
	for n := 0; n < 65536; n += 127 {
		text := "\x01\x00\x00" + string([]byte{byte(n >> 8), byte(n)}) + long[:n]
		if n <= 16384 {
			wantDecode(t, "Text", text, len(text), api.Record{Kind: 1, Text: long[:n]})
			continue
		}
		wantDecode(t, "Text", text, 0)
	}
}

func TestP62AllShortTexts(t *testing.T) {
	bytes := []byte{0x00, 0x01, 0x02, 0x41, 0x7f, 0x80, 0x81, 0xff}
	var grow func(s []byte)
	grow = func(s []byte) {
		wantOther(t, "a short text", string(s))
		if len(s) == 6 || t.Failed() {
			return
		}
		for _, b := range bytes {
			grow(append(s[:len(s):len(s)], b))
		}
	}
	grow(nil)
}

func TestP62AllGroups(t *testing.T) {
	source := rand.New(rand.NewPCG(6, 2))
	for range 50000 {
		b := []byte{1, 0, 1}
		for range source.IntN(12) {
			b = append(b, 0x80|byte(source.Uint32())>>source.IntN(9))
		}
		b = append(b, byte(source.Uint32())>>(1+source.IntN(8)), 0, 0)
		wantOther(t, "groups", string(b))
	}
}

func TestP62ChangedTexts(t *testing.T) {
	source := rand.New(rand.NewPCG(6, 3))
	for range 20000 {
		var b []byte
		for range 1 + source.IntN(4) {
			b = append(b, formOf(someRecord(source))...)
		}
		for range source.IntN(3) {
			at := source.IntN(len(b))
			switch source.IntN(3) {
			case 0:
				b[at] = byte(source.Uint32())
			case 1:
				b = slices.Insert(b, at, byte(source.Uint32()))
			default:
				b = slices.Delete(b, at, min(len(b), at+1+source.IntN(3)))
				b = append(b, 1)
			}
		}
		wantOther(t, "a changed text", string(b))
	}
}

func TestP62MemoryOfDecode(t *testing.T) {
	r := api.Record{Kind: 1, Who: "w", Nums: []int{1, 2, 3}, Text: "t"}
	s := strings.Repeat(formOf(r), 5)
	l, _ := record.Decode(s)
	again, _ := record.Decode(s)
	for i := range l {
		for len(l[i].Nums) < cap(l[i].Nums) {
			l[i].Nums = append(l[i].Nums, 7)
		}
		for k := range l[i].Nums {
			l[i].Nums[k] = 7
		}
		for _, other := range slices.Concat(l[i+1:], again) {
			if !same(other, r) {
				t.Fatal("two lists share memory:", other)
			}
		}
	}
}

func TestP63EncodedIsDecoded(t *testing.T) {
	source := rand.New(rand.NewPCG(6, 4))
	for range 2000 {
		var l []api.Record
		s := ""
		for range source.IntN(6) {
			r := someRecord(source)
			code, e := record.Encode(r)
			if e != api.OK {
				t.Fatal("Encode:", r, e)
			}
			wantDecode(t, "alone", code, len(code), r)
			l = append(l, r)
			s += code
			wantDecode(t, "behind others", s, len(s), l...)
		}
	}
	for _, n := range []int{math.MaxInt, math.MinInt, 0, -1, 63, 64, -64, -65} {
		code, _ := record.Encode(api.Record{Kind: 1, Nums: []int{n}})
		wantDecode(t, "a number", code, len(code), api.Record{Kind: 1, Nums: []int{n}})
	}
}

func TestP63CutOffIsNotDecoded(t *testing.T) {
	for what, r := range right() {
		code, _ := record.Encode(r)
		first := api.Record{Kind: 2, Who: "f", Nums: []int{-300}, Text: "g"}
		ahead, _ := record.Encode(first)
		step := 1 + len(code)/500
		for n := 0; n < len(code); n += step {
			wantDecode(t, what+", cut", code[:n], 0)
			wantDecode(t, what+", cut behind another", ahead+code[:n], len(ahead), first)
		}
		wantDecode(t, what+", the last byte cut", code[:len(code)-1], 0)
	}
}

func TestP63NoTwoFormsOfOneRecord(t *testing.T) {
	source := rand.New(rand.NewPCG(6, 5))
	for range 5000 {
		s := someText(source, source.IntN(40))
		l, n := record.Decode(s)
		var b strings.Builder
		for _, r := range l {
			code, e := record.Encode(r)
			if e != api.OK {
				t.Fatal("decoded, and can't be encoded:", r, e)
			}
			b.WriteString(code)
		}
		if b.String() != s[:n] {
			t.Fatalf("Decode of %s: the records' forms are %s", shown(s), shown(b.String()))
		}
	}
}
