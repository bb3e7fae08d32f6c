package record_test

import (
	"encoding/binary"
	"encoding/hex"
	"math"
	"math/rand/v2"
	"slices"
	"strings"
	"testing"

	"noonbell/api"
	"noonbell/record"
)

// formOf is a record's form by the library's means, whatever its counts are.
func formOf(r api.Record) string {
	b := append([]byte{byte(r.Kind), byte(len(r.Who))}, r.Who...)
	b = append(b, byte(len(r.Nums)))
	for _, n := range r.Nums {
		b = binary.AppendVarint(b, int64(n))
	}
	b = binary.BigEndian.AppendUint16(b, uint16(len(r.Text)))
	return string(append(b, r.Text...))
}

// unhex is the text whose bytes are written to the base sixteen.
func unhex(s string) string {
	b, err := hex.DecodeString(strings.ReplaceAll(s, " ", ""))
	if err != nil {
		panic(err)
	}
	return string(b)
}

// shown is a text as a fault tells it.
func shown(s string) string {
	if len(s) > 40 {
		return hex.EncodeToString([]byte(s[:40])) + ".."
	}
	return hex.EncodeToString([]byte(s))
}

// allShown are records as a fault tells them: by their forms.
func allShown(l []api.Record) string {
	var b strings.Builder
	for _, r := range l {
		b.WriteString("[" + shown(formOf(r)) + "]")
	}
	return "records " + b.String()
}

func same(a, b api.Record) bool {
	return a.Kind == b.Kind && a.Who == b.Who && slices.Equal(a.Nums, b.Nums) && a.Text == b.Text
}

func wantEncode(t *testing.T, what string, r api.Record, s string, e api.Errno) {
	t.Helper()
	if got, err := record.Encode(r); got != s || err != e {
		t.Errorf("%s: Encode: %s of %d, error %d, not %s of %d, error %d", what, shown(got), len(got), err, shown(s), len(s), e)
	}
}

func wantDecode(t *testing.T, what, s string, n int, l ...api.Record) {
	t.Helper()
	got, many := record.Decode(s)
	if many != n || !slices.EqualFunc(got, l, same) {
		t.Errorf("%s: Decode of %s: %s and %d, not %s and %d", what, shown(s), allShown(got), many, allShown(l), n)
	}
}

// edges are numbers beside those whose groups are one more or one less.
func edges() []int {
	l := []int{math.MaxInt, math.MinInt, 300}
	for bits := 0; bits < 63; bits++ {
		for beside := -2; beside <= 2; beside++ {
			l = append(l, 1<<bits+beside, -1<<bits+beside)
		}
	}
	return l
}

// right are records at the edges of what may be.
func right() map[string]api.Record {
	return map[string]api.Record{
		"the least":         {Kind: 1},
		"the greatest kind": {Kind: 255},
		"an empty list":     {Kind: 2, Nums: []int{}},
		"the document's":    {Kind: 1, Who: "a", Nums: []int{0, -1, 300}},
		"one byte of all":   {Kind: 128, Who: "\xff", Nums: []int{7}, Text: "\x00"},
		"the longest who":   {Kind: 3, Who: strings.Repeat("w", 64)},
		"the most nums":     {Kind: 4, Nums: make([]int, 64)},
		"the longest nums":  {Kind: 4, Nums: slices.Repeat([]int{math.MinInt, math.MaxInt}, 32)},
		"the longest text":  {Kind: 5, Text: strings.Repeat("t", 16384)},
		"256 bytes of text": {Kind: 6, Text: strings.Repeat("\x01", 256)},
		"255 bytes of text": {Kind: 6, Text: strings.Repeat("\x01", 255)},
		"bytes of no rune":  {Kind: 7, Who: "é\x80\x00", Text: "\xed\xa0\x80\x00"},
		"all of the most":   {Kind: 255, Who: strings.Repeat("\xff", 64), Nums: slices.Repeat([]int{math.MinInt}, 64), Text: strings.Repeat("\xff", 16384)},
	}
}

func TestP61Examples(t *testing.T) {
	r := api.Record{Kind: 1, Who: "a", Nums: []int{0, -1, 300}}
	s := unhex("01 01 61 03 00 01 D8 04 00 00")
	wantEncode(t, "the document's", r, s, api.OK)
	wantDecode(t, "the document's", s+"\x01\x02", 10, r)
}

func TestP61EncodeWrittenOut(t *testing.T) {
	for _, c := range []struct {
		r api.Record
		s string
	}{
		{api.Record{Kind: 1}, "01 00 00 00 00"},
		{api.Record{Kind: 255}, "FF 00 00 00 00"},
		{api.Record{Kind: 9, Who: "ab", Text: "xyz"}, "09 02 61 62 00 00 03 78 79 7A"},
		{api.Record{Kind: 1, Nums: []int{0}}, "01 00 01 00 00 00"},
		{api.Record{Kind: 1, Nums: []int{-1}}, "01 00 01 01 00 00"},
		{api.Record{Kind: 1, Nums: []int{63}}, "01 00 01 7E 00 00"},
		{api.Record{Kind: 1, Nums: []int{-64}}, "01 00 01 7F 00 00"},
		{api.Record{Kind: 1, Nums: []int{64}}, "01 00 01 80 01 00 00"},
		{api.Record{Kind: 1, Nums: []int{-65}}, "01 00 01 81 01 00 00"},
		{api.Record{Kind: 1, Nums: []int{math.MaxInt}}, "01 00 01 FE FF FF FF FF FF FF FF FF 01 00 00"},
		{api.Record{Kind: 1, Nums: []int{math.MinInt}}, "01 00 01 FF FF FF FF FF FF FF FF FF 01 00 00"},
	} {
		wantEncode(t, c.s, c.r, unhex(c.s), api.OK)
		wantDecode(t, c.s, unhex(c.s), len(unhex(c.s)), c.r)
	}
	long := strings.Repeat("q", 258)
	wantEncode(t, "a long text", api.Record{Kind: 1, Text: long}, "\x01\x00\x00\x01\x02"+long, api.OK)
}

func TestP61EncodeEdges(t *testing.T) {
	for what, r := range right() {
		wantEncode(t, what, r, formOf(r), api.OK)
	}
	for kind := 1; kind <= 255; kind++ {
		r := api.Record{Kind: kind, Who: "w"}
		wantEncode(t, "a kind", r, formOf(r), api.OK)
	}
	for _, n := range edges() {
		r := api.Record{Kind: 1, Nums: []int{n, 5}}
		wantEncode(t, "a number", r, formOf(r), api.OK)
		wantDecode(t, "a number", formOf(r), len(formOf(r)), r)
	}
}

func TestP61Refusals(t *testing.T) {
	who, text := strings.Repeat("w", 65), strings.Repeat("t", 16385)
	nums := make([]int, 65)
	for what, r := range map[string]api.Record{
		"Who of 65 bytes":     {Kind: 1, Who: who},
		"runes of 65 bytes":   {Kind: 1, Who: strings.Repeat("é", 32) + "w"},
		"Who of 256 bytes":    {Kind: 1, Who: strings.Repeat("w", 256)},
		"65 Nums":             {Kind: 255, Nums: nums},
		"256 Nums":            {Kind: 255, Nums: make([]int, 256)},
		"Text of 16385 bytes": {Kind: 1, Text: text},
		"Text of 65536 bytes": {Kind: 1, Text: strings.Repeat("t", 65536)},
		"all of them":         {Kind: 1, Who: who, Nums: nums, Text: text},
	} {
		wantEncode(t, what, r, "", api.ErrSize)
	}
	for _, kind := range []int{0, -1, -255, 256, 257, 511, 512, math.MaxInt, math.MinInt} {
		wantEncode(t, "a kind", api.Record{Kind: kind, Who: "w"}, "", api.ErrArg)
		for _, r := range []api.Record{{Kind: kind, Who: who}, {Kind: kind, Nums: nums}, {Kind: kind, Text: text}} {
			wantEncode(t, "a kind ahead of a size", r, "", api.ErrArg)
		}
	}
}

func TestP61MemoryOfEncode(t *testing.T) {
	nums := []int{1, 2, 3, 4, 5}
	record.Encode(api.Record{Kind: 1, Nums: nums[:3]})
	if !slices.Equal(nums, []int{1, 2, 3, 4, 5}) {
		t.Error("what is handed in has changed:", nums)
	}
}

// someRecord is a record that may be; its numbers are of all lengths.
func someRecord(source *rand.Rand) api.Record {
	r := api.Record{Kind: 1 + source.IntN(255)}
	r.Who = someText(source, source.IntN(5))
	for range source.IntN(5) {
		r.Nums = append(r.Nums, int(source.Uint64())>>source.IntN(64))
	}
	r.Text = someText(source, source.IntN(8))
	return r
}

func someText(source *rand.Rand, n int) string {
	b := make([]byte, n)
	for i := range b {
		b[i] = byte(source.Uint32()) >> source.IntN(9)
	}
	return string(b)
}

func TestP61AgainstLibrary(t *testing.T) {
	source := rand.New(rand.NewPCG(6, 1))
	for range 5000 {
		r := someRecord(source)
		wantEncode(t, "some record", r, formOf(r), api.OK)
	}
}
