package store_test

import (
	"encoding/binary"
	"encoding/hex"
	"math"
	"slices"
	"strconv"
	"strings"
	"testing"

	"noonbell/api"
	"noonbell/disk"
	"noonbell/store"
	"noonbell/wal"
)

const (
	all  = math.MaxUint64
	most = 127 * api.Sector
)

// formOf is a record's form by the library's means.
func formOf(r api.Record) string {
	b := append([]byte{byte(r.Kind), byte(len(r.Who))}, r.Who...)
	b = append(b, byte(len(r.Nums)))
	for _, n := range r.Nums {
		b = binary.AppendVarint(b, int64(n))
	}
	b = binary.BigEndian.AppendUint16(b, uint16(len(r.Text)))
	return string(append(b, r.Text...))
}

func formsOf(l []api.Record) string {
	var b strings.Builder
	for _, r := range l {
		b.WriteString(formOf(r))
	}
	return b.String()
}

// sized is a record whose form has so many bytes.
func sized(kind, bytes int) api.Record {
	return api.Record{Kind: kind, Text: strings.Repeat(string(rune('a'+kind%26)), bytes-5)}
}

// filling are records whose forms have so many bytes, in all.
func filling(bytes int) []api.Record {
	var l []api.Record
	for kind := 1; bytes > 0; kind++ {
		n := min(bytes, 16000)
		if 0 < bytes-n && bytes-n < 5 {
			n -= 5
		}
		l = append(l, sized(kind, n))
		bytes -= n
	}
	return l
}

// shown are records as a fault tells them.
func shown(l []api.Record) string {
	var b strings.Builder
	b.WriteString(strconv.Itoa(len(l)) + " records")
	for _, r := range l[:min(len(l), 6)] {
		s := formOf(r)
		b.WriteString(" " + hex.EncodeToString([]byte(s[:min(len(s), 20)])))
	}
	return b.String()
}

func same(a, b api.Record) bool {
	return a.Kind == b.Kind && a.Who == b.Who && slices.Equal(a.Nums, b.Nums) && a.Text == b.Text
}

func wantErr(t *testing.T, what string, got, e api.Errno) {
	t.Helper()
	if got != e {
		t.Errorf("%s: error %d, not %d", what, got, e)
	}
}

// wantStore holds what a store tells of itself against the records that it has.
func wantStore(t *testing.T, what string, s *store.Store, l []api.Record) {
	t.Helper()
	if room := most - len(formsOf(l)); s.Len() != len(l) || s.Room() != room {
		t.Errorf("%s: Len %d, Room %d, not %d, %d", what, s.Len(), s.Room(), len(l), room)
	}
}

// wantOpen opens the disk, and holds what is told against the records; opening
// writes nothing.
func wantOpen(t *testing.T, what string, d *disk.Disk, l []api.Record) *store.Store {
	t.Helper()
	was, ops := sectorsOf(d), d.Ops()
	s, got, e := store.Open(d)
	if e != api.OK || s == nil {
		t.Fatalf("%s: Open: error %d", what, e)
	}
	if !slices.EqualFunc(got, l, same) {
		t.Errorf("%s: Open: %s, not %s", what, shown(got), shown(l))
	}
	if sectorsOf(d) != was || d.Ops() != ops {
		t.Errorf("%s: Open: %d calls that write", what, d.Ops()-ops)
	}
	wantStore(t, what+", opened", s, l)
	return s
}

// wantForm holds that the disk is refused, and that nothing is written.
func wantForm(t *testing.T, what string, d *disk.Disk) {
	t.Helper()
	was, ops := sectorsOf(d), d.Ops()
	s, l, e := store.Open(d)
	if s != nil || len(l) > 0 || e != api.ErrForm {
		t.Errorf("%s: Open: a store %t, %s, error %d, not none with error %d", what, s != nil, shown(l), e, api.ErrForm)
	}
	if sectorsOf(d) != was || d.Ops() != ops {
		t.Errorf("%s: Open: %d calls that write", what, d.Ops()-ops)
	}
}

func sectorsOf(d *disk.Disk) (l [api.Sectors]string) {
	for i := range l {
		l[i], _ = d.Read(i)
	}
	return l
}

// wantText holds the log's text on the disk against s.
func wantText(t *testing.T, what string, d *disk.Disk, s string) {
	t.Helper()
	if _, got, _ := wal.Open(d); got != s {
		t.Errorf("%s: the log has %d bytes, not these %d", what, len(got), len(s))
	}
}

// withText is a disk whose log has this text.
func withText(t *testing.T, s string) *disk.Disk {
	t.Helper()
	d := disk.New()
	l, _, _ := wal.Open(d)
	wantErr(t, "the log's text", l.Append(s), api.OK)
	return d
}

// several are records of all kinds: with and without each of their parts.
func several() []api.Record {
	return []api.Record{
		{Kind: 1},
		{Kind: 255, Who: "a"},
		{Kind: 2, Nums: []int{0, -1, 300, math.MaxInt, math.MinInt}},
		{Kind: 3, Text: "text"},
		{Kind: 1},
		{Kind: 9, Who: strings.Repeat("w", 64), Nums: make([]int, 64), Text: strings.Repeat("\x00", 700)},
		{Kind: 128, Who: "é\x00\xff", Text: "\x01\x00\x00\x00\x00"},
	}
}

// wrong are records that have an error.
func wrong() map[string]struct {
	r api.Record
	e api.Errno
} {
	return map[string]struct {
		r api.Record
		e api.Errno
	}{
		"Kind 0":            {api.Record{}, api.ErrArg},
		"Kind below 0":      {api.Record{Kind: -1}, api.ErrArg},
		"Kind 256":          {api.Record{Kind: 256}, api.ErrArg},
		"Kind 0, long":      {api.Record{Text: strings.Repeat("x", 16385)}, api.ErrArg},
		"Who of 65 bytes":   {api.Record{Kind: 1, Who: strings.Repeat("x", 65)}, api.ErrSize},
		"65 Nums":           {api.Record{Kind: 1, Nums: make([]int, 65)}, api.ErrSize},
		"Text of 16385":     {api.Record{Kind: 1, Text: strings.Repeat("x", 16385)}, api.ErrSize},
		"Text of the whole": {api.Record{Kind: 1, Text: strings.Repeat("x", most+1)}, api.ErrSize},
	}
}

func TestP71OpenOfAnEmptyDisk(t *testing.T) {
	d := disk.New()
	s := wantOpen(t, "new", d, nil)
	if s.Len() != 0 || s.Room() != 32512 {
		t.Errorf("new: Len %d, Room %d", s.Len(), s.Room())
	}
	if d.Ops() != 0 {
		t.Errorf("new: %d calls that write", d.Ops())
	}
	wantOpen(t, "new, again", d, nil)
}

func TestP71OpenTellsTheRecords(t *testing.T) {
	l := several()
	for n := range len(l) + 1 {
		wantOpen(t, "written by the log", withText(t, formsOf(l[:n])), l[:n])
	}
	for _, bytes := range []int{5, 255, 256, 257, 512, most - 1, most} {
		l := filling(bytes)
		wantOpen(t, strconv.Itoa(bytes)+" bytes", withText(t, formsOf(l)), l)
	}
}

// An empty text that was written is like one that never was.
func TestP71OpenOfTheEmptyText(t *testing.T) {
	wantOpen(t, "the empty text", withText(t, ""), nil)
}

// others are texts that no record begins with, whatever follows them.
func others() map[string]string {
	return map[string]string{
		"a byte 0":          "\x00",
		"zeros":             strings.Repeat("\x00", 300),
		"Kind 0":            "\x00\x00\x00\x00\x00",
		"no end of groups":  "\x01\x00\x01" + strings.Repeat("\x80", 11),
		"0 in two groups":   "\x01\x00\x01\x80\x00\x00\x00",
		"Who of 65 bytes":   "\x01\x41" + strings.Repeat("w", 65) + "\x00\x00\x00",
		"65 Nums":           "\x01\x00\x41" + strings.Repeat("\x00", 65) + "\x00\x00",
		"Text of 16385":     "\x01\x00\x00\x40\x01" + strings.Repeat("x", 16385),
		"what people write": "hello, world",
	}
}

func TestP71OpenOfOtherBytes(t *testing.T) {
	right := formsOf(several())
	for what, s := range others() {
		wantForm(t, what, withText(t, s))
		wantForm(t, what+" ahead of records", withText(t, s+right))
		wantForm(t, what+" behind records", withText(t, right+s))
		wantForm(t, what+" between records", withText(t, right+s+right))
	}
	wantForm(t, "a byte alone", withText(t, "\x01"))
	wantForm(t, "the area's last byte", withText(t, formsOf(filling(most-1))+"\x01"))
	wantForm(t, "all of the area", withText(t, strings.Repeat("\x00", most)))
}

// Of a text that is cut all is told or nothing.
func TestP71OpenOfWhatIsCut(t *testing.T) {
	l := several()
	right, whole := formsOf(l), 0
	for n := range len(right) + 1 {
		if n == len(formsOf(l[:whole])) {
			wantOpen(t, "cut at "+strconv.Itoa(n), withText(t, right[:n]), l[:whole])
			whole++
			continue
		}
		wantForm(t, "cut at "+strconv.Itoa(n), withText(t, right[:n]))
	}
	if whole != len(l)+1 {
		t.Errorf("%d cuts between records", whole)
	}
}

// A disk that was refused is taken when its text is records again.
func TestP71BehindOtherBytes(t *testing.T) {
	d := withText(t, "none of it")
	wantForm(t, "none of it", d)
	wantForm(t, "again", d)
	log, _, _ := wal.Open(d)
	wantErr(t, "Checkpoint", log.Checkpoint(formsOf(several())), api.OK)
	s := wantOpen(t, "mended", d, several())
	wantErr(t, "Append", log.Append("?"), api.OK)
	wantForm(t, "broken anew", d)
	wantStore(t, "opened ahead of it", s, several())
}

func TestP71OpenWhenTheDiskCannotWrite(t *testing.T) {
	d, l := disk.New(), several()
	s := wantOpen(t, "new", d, nil)
	wantErr(t, "Add", s.Add(l), api.OK)
	d.Fail(0)
	wantErr(t, "Sync", d.Sync(), api.ErrIO)
	wantOpen(t, "failing", d, l)
	d.Crash(0)
	dead := wantOpen(t, "dead", d, l)
	wantErr(t, "Add without power", dead.Add(l), api.ErrDead)
	wantStore(t, "dead", dead, l)
	// An order of the disk has no call less left behind Open.
	d.Power()
	d.Cut(0, all)
	s = wantOpen(t, "a cut is ordered", d, l)
	wantErr(t, "Add", s.Add(nil), api.ErrDead)
}

func TestP71MemoryOfOpen(t *testing.T) {
	r := api.Record{Kind: 1, Who: "w", Nums: []int{1, 2, 3}, Text: "t"}
	d := withText(t, strings.Repeat(formOf(r), 5))
	s, l, _ := store.Open(d)
	_, again, _ := store.Open(d)
	for i := range l {
		for len(l[i].Nums) < cap(l[i].Nums) {
			l[i].Nums = append(l[i].Nums, 7)
		}
		for k := range l[i].Nums {
			l[i].Nums[k] = 7
		}
		for _, other := range slices.Concat(l[i+1:], again) {
			if !same(other, r) {
				t.Fatal("two lists share memory:", other)
			}
		}
		l[i] = api.Record{}
	}
	wantStore(t, "the answer is changed", s, slices.Repeat([]api.Record{r}, 5))
	wantErr(t, "Add", s.Add(nil), api.OK)
	wantOpen(t, "the answer is changed", d, slices.Repeat([]api.Record{r}, 5))
}

func TestP72Examples(t *testing.T) {
	a, b, c := api.Record{Kind: 1, Who: "a"}, api.Record{Kind: 2, Text: "b"}, api.Record{Kind: 3, Nums: []int{-3}}
	d := disk.New()
	s := wantOpen(t, "new", d, nil)
	wantErr(t, "Add(a, b)", s.Add([]api.Record{a, b}), api.OK)
	if s.Len() != 2 || s.Room() != 32500 {
		t.Errorf("Len %d, Room %d, not 2, 32500", s.Len(), s.Room())
	}
	wantErr(t, "Replace(c)", s.Replace([]api.Record{c}), api.OK)
	wantOpen(t, "replaced", d, []api.Record{c})
	wantErr(t, "Add of Kind 0", s.Add([]api.Record{{}}), api.ErrArg)
	wantOpen(t, "refused", d, []api.Record{c})
}

// Each number of records is laid down behind each, and in the stead of each.
func TestP72AddAndReplace(t *testing.T) {
	l := several()
	for first := range len(l) + 1 {
		for next := range len(l) + 1 {
			what := strconv.Itoa(first) + " and " + strconv.Itoa(next)
			elder, young := l[:first], l[len(l)-next:]

			d := disk.New()
			s := wantOpen(t, "new", d, nil)
			wantErr(t, what, s.Add(elder), api.OK)
			wantErr(t, what, s.Add(young), api.OK)
			wantStore(t, what, s, slices.Concat(elder, young))
			wantText(t, what, d, formsOf(elder)+formsOf(young))
			s = wantOpen(t, what, d, slices.Concat(elder, young))
			wantErr(t, what, s.Add(l[:1]), api.OK)
			wantOpen(t, what+" and one", d, slices.Concat(elder, young, l[:1]))

			d = withText(t, formsOf(elder))
			s = wantOpen(t, what, d, elder)
			wantErr(t, what, s.Replace(young), api.OK)
			wantStore(t, what+", replaced", s, young)
			wantText(t, what+", replaced", d, formsOf(young))
			s = wantOpen(t, what+", replaced", d, young)
			wantErr(t, what, s.Add(l[:1]), api.OK)
			wantOpen(t, what+", replaced, and one", d, slices.Concat(young, l[:1]))
		}
	}
}

// A step is the log's, with no call of the disk more or less, also if there
// is nothing to lay down.
func TestP72TheCallsOfTheDisk(t *testing.T) {
	for _, bytes := range []int{0, 5, 255, 256, 257, 600, most} {
		for _, replace := range []bool{false, true} {
			d, other, l := disk.New(), disk.New(), filling(bytes)
			s, log := wantOpen(t, "new", d, nil), logOf(other)
			wantErr(t, "the first", s.Add(several()), api.OK)
			wantErr(t, "the first", s.Replace(nil), api.OK)
			log.Append(formsOf(several()))
			log.Checkpoint("")
			put, step := s.Add, log.Append
			if replace {
				put, step = s.Replace, log.Checkpoint
			}
			wantErr(t, strconv.Itoa(bytes)+" bytes", put(l), api.OK)
			wantErr(t, strconv.Itoa(bytes)+" bytes", step(formsOf(l)), api.OK)
			if sectorsOf(d) != sectorsOf(other) || d.Ops() != other.Ops() {
				t.Errorf("%d bytes: %d calls of the disk, not the log's %d, or others", bytes, d.Ops(), other.Ops())
			}
		}
	}
}

func logOf(d *disk.Disk) *wal.Log {
	l, _, _ := wal.Open(d)
	return l
}

// A wrong record among right ones: nothing of the call is kept.
func TestP72WrongRecords(t *testing.T) {
	l := several()
	for what, c := range wrong() {
		for at := range len(l) + 1 {
			d := withText(t, formsOf(l))
			s, ops := wantOpen(t, what, d, l), d.Ops()
			bad := slices.Insert(slices.Clone(l), at, c.r)
			wantErr(t, what+", Add", s.Add(bad), c.e)
			wantErr(t, what+", Replace", s.Replace(bad), c.e)
			wantErr(t, what+", alone", s.Add([]api.Record{c.r}), c.e)
			wantErr(t, what+", alone", s.Replace([]api.Record{c.r}), c.e)
			if d.Ops() != ops {
				t.Errorf("%s: %d calls that write", what, d.Ops()-ops)
			}
			wantStore(t, what, s, l)
			wantOpen(t, what, d, l)
			wantErr(t, what+", then Add", s.Add(l[:2]), api.OK)
			wantOpen(t, what+", then Add", d, slices.Concat(l, l[:2]))
		}
	}
}

func TestP72TheFirstWrongRecord(t *testing.T) {
	l := several()
	s := wantOpen(t, "new", disk.New(), nil)
	for first, a := range wrong() {
		for next, b := range wrong() {
			what := first + " ahead of " + next
			for _, bad := range [][]api.Record{{a.r, b.r}, {l[0], a.r, l[1], b.r, l[2]}} {
				wantErr(t, what, s.Add(bad), a.e)
				wantErr(t, what, s.Replace(bad), a.e)
			}
		}
	}
	wantStore(t, "refused", s, nil)
}

// A wrong record is told ahead of ErrFull, wherever it stands.
func TestP72WrongAheadOfFull(t *testing.T) {
	s := wantOpen(t, "new", disk.New(), nil)
	for what, c := range wrong() {
		for at := range 4 {
			bad := slices.Insert(filling(most + 16000)[:3], at, c.r)
			wantErr(t, what, s.Add(bad), c.e)
			wantErr(t, what, s.Replace(bad), c.e)
		}
	}
	wantStore(t, "refused", s, nil)
}

func TestP72Full(t *testing.T) {
	for _, n := range []int{0, 5, 256, 1000, most - 6, most - 5, most} {
		elder := filling(n)
		d := withText(t, formsOf(elder))
		s, ops := wantOpen(t, "elder", d, elder), d.Ops()
		for _, more := range []int{max(5, s.Room()+1), s.Room() + 5, s.Room() + 256, most + 5, 3 * most} {
			wantErr(t, "Add of too much", s.Add(filling(more)), api.ErrFull)
			wantStore(t, "Add of too much", s, elder)
		}
		for _, more := range []int{most + 1, most + 5, 2 * most} {
			wantErr(t, "Replace by too much", s.Replace(filling(more)), api.ErrFull)
			wantStore(t, "Replace by too much", s, elder)
		}
		if d.Ops() != ops {
			t.Errorf("%d calls that write", d.Ops()-ops)
		}
		wantOpen(t, "refused", d, elder)
		// Behind ErrFull the store goes on.
		rest := filling(0)
		if s.Room() >= 5 {
			rest = filling(s.Room())
		}
		wantErr(t, "Add of the rest", s.Add(rest), api.OK)
		wantStore(t, "Add of the rest", s, slices.Concat(elder, rest))
		wantOpen(t, "Add of the rest", d, slices.Concat(elder, rest))
		wantErr(t, "Add of nothing", s.Add(nil), api.OK)
		wantErr(t, "Replace by the most", s.Replace(filling(most)), api.OK)
		if s.Room() != 0 {
			t.Errorf("full: Room %d", s.Room())
		}
		wantErr(t, "Add to what is full", s.Add([]api.Record{{Kind: 1}}), api.ErrFull)
		wantOpen(t, "full", d, filling(most))
		wantErr(t, "Replace by nothing", s.Replace(nil), api.OK)
		wantOpen(t, "empty", d, nil)
	}
}

func TestP72MemoryOfAdd(t *testing.T) {
	for _, replace := range []bool{false, true} {
		d := disk.New()
		s := wantOpen(t, "new", d, nil)
		put := s.Add
		if replace {
			put = s.Replace
		}
		nums := []int{1, 2, 3, 4}
		l := []api.Record{{Kind: 1, Nums: nums[:2]}, {Kind: 2, Nums: nums[3:]}, {Kind: 3}, {Kind: 4}}
		wantErr(t, "the first two", put(l[:2]), api.OK)
		if !slices.Equal(nums, []int{1, 2, 3, 4}) || l[2].Kind != 3 || l[3].Kind != 4 {
			t.Error("what is handed in has changed")
		}
		kept := []api.Record{{Kind: 1, Nums: []int{1, 2}}, {Kind: 2, Nums: []int{4}}}
		nums[0], nums[3], l[0], l[1] = 9, 9, api.Record{}, api.Record{}
		wantStore(t, "changed behind it", s, kept)
		wantErr(t, "one more", s.Add([]api.Record{{Kind: 5}}), api.OK)
		wantOpen(t, "changed behind it", d, append(kept, api.Record{Kind: 5}))
	}
}

// Len and Room follow each call that was answered OK, in whatever order.
func TestP73LenAndRoom(t *testing.T) {
	s := wantOpen(t, "new", disk.New(), nil)
	five := func(n int) []api.Record { return slices.Repeat([]api.Record{{Kind: 1}}, n) }
	for i, c := range []struct {
		replace   bool
		l         []api.Record
		e         api.Errno
		len, room int
	}{
		{false, nil, api.OK, 0, 32512},
		{false, five(1), api.OK, 1, 32507},
		{false, five(3), api.OK, 4, 32492},
		{true, five(2), api.OK, 2, 32502},
		{false, five(0), api.OK, 2, 32502},
		{false, []api.Record{{Kind: 1}, {}}, api.ErrArg, 2, 32502},
		{true, []api.Record{{Kind: 1}, {}}, api.ErrArg, 2, 32502},
		{false, five(6501), api.ErrFull, 2, 32502},
		{true, five(6503), api.ErrFull, 2, 32502},
		{false, five(6500), api.OK, 6502, 2},
		{false, five(1), api.ErrFull, 6502, 2},
		{true, nil, api.OK, 0, 32512},
		{true, five(6502), api.OK, 6502, 2},
		{true, []api.Record{{Kind: 9, Who: "who", Nums: []int{-300, 1}, Text: "text"}}, api.OK, 1, 32497},
	} {
		what, put := "row "+strconv.Itoa(i), s.Add
		if c.replace {
			put = s.Replace
		}
		wantErr(t, what, put(c.l), c.e)
		if s.Len() != c.len || s.Room() != c.room {
			t.Errorf("%s: Len %d, Room %d, not %d, %d", what, s.Len(), s.Room(), c.len, c.room)
		}
	}
}

func TestP72TwoStoresHaveNothingInCommon(t *testing.T) {
	a, b, l := disk.New(), disk.New(), several()
	x, y := wantOpen(t, "a", a, nil), wantOpen(t, "b", b, nil)
	wantErr(t, "a", x.Add(l[:2]), api.OK)
	wantErr(t, "b", y.Replace(l[2:3]), api.OK)
	a.Fail(0)
	wantErr(t, "a", x.Add(l[3:]), api.ErrIO)
	wantErr(t, "b", y.Add(l[3:]), api.OK)
	wantOpen(t, "a", a, l[:2])
	wantOpen(t, "b", b, l[2:])
	// On one disk each goes on from its own records, whatever the other did.
	z := wantOpen(t, "b", b, l[2:])
	wantErr(t, "the other", z.Add(l[:1]), api.OK)
	wantStore(t, "the one", y, l[2:])
	wantStore(t, "the other", z, slices.Concat(l[2:], l[:1]))
}
