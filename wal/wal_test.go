package wal_test

import (
	"encoding/binary"
	"hash/fnv"
	"math"
	"math/rand/v2"
	"strconv"
	"strings"
	"testing"

	"noonbell/api"
	"noonbell/disk"
	"noonbell/wal"
)

const (
	all      = math.MaxUint64
	roomiest = 127 * api.Sector
)

// fnv32 is the sum by the library's means.
func fnv32(s string) uint32 {
	h := fnv.New32a()
	h.Write([]byte(s))
	return h.Sum32()
}

// commitOf is a commit's text, whose last sum is right.
func commitOf(n uint64, area byte, length, sum uint32) string {
	b := binary.BigEndian.AppendUint64(nil, n)
	b = append(b, area)
	b = binary.BigEndian.AppendUint32(b, length)
	b = binary.BigEndian.AppendUint32(b, sum)
	return string(binary.BigEndian.AppendUint32(b, fnv32(string(b))))
}

// rightOf is a commit that tells of a text.
func rightOf(n uint64, area byte, text string) string {
	return commitOf(n, area, uint32(len(text)), fnv32(text))
}

// textOf is a text of so many bytes, no two sectors of which are the same.
func textOf(n int, seed uint64) string {
	source := rand.New(rand.NewPCG(seed, uint64(n)))
	b := make([]byte, n)
	for i := range b {
		b[i] = byte(source.Uint32())
	}
	return string(b)
}

func wantErr(t *testing.T, what string, got, e api.Errno) {
	t.Helper()
	if got != e {
		t.Errorf("%s: error %d, not %d", what, got, e)
	}
}

// shown is a text as a fault tells it.
func shown(s string) string {
	if len(s) > 40 {
		return strconv.Quote(s[:40]) + ".. of " + strconv.Itoa(len(s))
	}
	return strconv.Quote(s)
}

// wantText opens the disk, and holds what is told against the text; opening
// writes nothing.
func wantText(t *testing.T, what string, d *disk.Disk, text string) *wal.Log {
	t.Helper()
	ops := d.Ops()
	l, got, e := wal.Open(d)
	if got != text || e != api.OK {
		t.Errorf("%s: Open: %s, error %d, not %s", what, shown(got), e, shown(text))
	}
	if d.Ops() != ops {
		t.Errorf("%s: Open: %d calls that write", what, d.Ops()-ops)
	}
	wantLog(t, what, l, len(text), api.OK)
	return l
}

func wantLog(t *testing.T, what string, l *wal.Log, n int, e api.Errno) {
	t.Helper()
	if l.Len() != n || l.Err() != e {
		t.Errorf("%s: Len %d, Err %d, not %d, %d", what, l.Len(), l.Err(), n, e)
	}
}

func wantSector(t *testing.T, what string, d *disk.Disk, i int, s string) {
	t.Helper()
	if got, _ := d.Read(i); got != s {
		t.Errorf("%s: sector %d is %s, not %s", what, i, shown(got), shown(s))
	}
}

// put writes, and fails the test if it is refused.
func put(t *testing.T, d *disk.Disk, i int, s string) {
	t.Helper()
	wantErr(t, "Write("+strconv.Itoa(i)+")", d.Write(i, s), api.OK)
}

// putArea lays a text down in an area, as the chapter cuts it.
func putArea(t *testing.T, d *disk.Disk, area int, text string) {
	t.Helper()
	for at := 0; at < len(text); at += api.Sector {
		put(t, d, 2+127*area+at/api.Sector, text[at:min(len(text), at+api.Sector)])
	}
}

// wantCalls carries a step out, and holds how many calls of the disk it made
// against n.
func wantCalls(t *testing.T, what string, d *disk.Disk, n int, step func() api.Errno) {
	t.Helper()
	ops := d.Ops()
	wantErr(t, what, step(), api.OK)
	if d.Ops() != ops+n {
		t.Errorf("%s: %d calls of the disk, not %d", what, d.Ops()-ops, n)
	}
}

// edges are lengths of texts beside the ends of sectors and of an area.
func edges() []int {
	return []int{0, 1, 2, 255, 256, 257, 511, 512, 513, roomiest - 257, roomiest - 256, roomiest - 255, roomiest - 1, roomiest}
}

func TestP51Sum(t *testing.T) {
	table := []struct {
		s   string
		sum uint32
	}{
		{"", 0x811C9DC5},
		{"a", 0xE40C292C},
		{"b", 0xE70C2DE5},
		{"foobar", 0xBF9CF968},
		{"\x00", 0x050C5D1F},
	}
	for _, c := range table {
		if got := wal.Sum(c.s); got != c.sum {
			t.Errorf("Sum(%q): %X, not %X", c.s, got, c.sum)
		}
	}
	for b := range 256 {
		s := string([]byte{byte(b)})
		if wal.Sum(s) != fnv32(s) || wal.Sum("x"+s+s) != fnv32("x"+s+s) {
			t.Errorf("Sum of byte %d", b)
		}
	}
	for n := range 600 {
		s := textOf(n, 1)
		if wal.Sum(s) != fnv32(s) {
			t.Errorf("Sum of %d bytes", n)
		}
	}
}

func TestP51SumHangsOnTheOrder(t *testing.T) {
	texts := []string{"ab", "ba", "ab\x00", "\x00ab", "a\x00b", "é", "e"}
	for i, a := range texts {
		for _, b := range texts[:i] {
			if wal.Sum(a) == wal.Sum(b) {
				t.Errorf("%q and %q have one sum", a, b)
			}
		}
	}
}

func TestP53OpenOfANewDisk(t *testing.T) {
	d := disk.New()
	l := wantText(t, "new", d, "")
	wantErr(t, "Append", l.Append("x"), api.OK)
	// N was 0, and the area 0.
	wantSector(t, "new", d, 1, rightOf(1, 0, "x"))
	wantSector(t, "new", d, 0, "")
	wantSector(t, "new", d, 2, "x")
}

func TestP53TheGreaterNumber(t *testing.T) {
	numbers := []uint64{1, 2, 3, 255, 256, 1 << 32, 1<<32 + 1, 1 << 63, math.MaxInt64, all - 1, all}
	for _, n := range numbers {
		for _, m := range numbers {
			d := disk.New()
			putArea(t, d, 0, "of sector 0")
			putArea(t, d, 1, "of sector 1")
			put(t, d, 0, rightOf(n, 0, "of sector 0"))
			put(t, d, 1, rightOf(m, 1, "of sector 1"))
			text, area, next := "of sector 0", byte(0), n+1
			if m > n {
				text, area, next = "of sector 1", 1, m+1
			}
			what := strconv.FormatUint(n, 10) + " and " + strconv.FormatUint(m, 10)
			l := wantText(t, what, d, text)
			wantErr(t, what, l.Append("!"), api.OK)
			wantSector(t, what, d, int(next%2), rightOf(next, area, text+"!"))
		}
	}
}

// The area and the sector of a commit hang together by nothing.
func TestP53AnyAreaFromAnySector(t *testing.T) {
	for _, sector := range []int{0, 1} {
		for _, area := range []byte{0, 1} {
			for _, n := range []uint64{1, 2, 7} {
				for _, size := range edges() {
					d, text := disk.New(), textOf(size, 2)
					putArea(t, d, int(area), text)
					put(t, d, sector, rightOf(n, area, text))
					wantText(t, "alone", d, text)
					put(t, d, 1-sector, commitOf(9, area, uint32(size), fnv32(text)+1))
					wantText(t, "beside one that is not right", d, text)
				}
			}
		}
	}
}

func TestP53OpenWhenTheDiskCannotWrite(t *testing.T) {
	d := disk.New()
	l := wantText(t, "new", d, "")
	wantErr(t, "Append", l.Append("kept"), api.OK)
	d.Fail(0)
	wantErr(t, "Sync", d.Sync(), api.ErrIO)
	wantText(t, "failing", d, "kept")
	d.Crash(0)
	dead := wantText(t, "dead", d, "kept")
	wantErr(t, "Append without power", dead.Append("x"), api.ErrDead)
	wantLog(t, "dead", dead, 4, api.ErrDead)
}

func TestP54Examples(t *testing.T) {
	d := disk.New()
	l := wantText(t, "new", d, "")
	wantErr(t, "Append(ab)", l.Append("ab"), api.OK)
	wantErr(t, "Append(c)", l.Append("c"), api.OK)
	l = wantText(t, "ab and c", d, "abc")
	d.Cut(3, all)
	wantErr(t, "Append(d)", l.Append("d"), api.ErrDead)
	d.Power()
	wantText(t, "d", d, "abcd")
}

// Each text is appended to each, and stands in the area's sectors just so.
func TestP54AppendAtTheEdges(t *testing.T) {
	for _, first := range edges() {
		for _, more := range []int{0, 1, 2, 254, 255, 256, 257, 511, 512, 513} {
			d, l := grown(t, first)
			text, s := textOf(first, 3), textOf(more, 4)
			if first+more > roomiest {
				wantErr(t, "too long", l.Append(s), api.ErrFull)
				wantLog(t, "too long", l, first, api.OK)
				wantText(t, "too long", d, text)
				continue
			}
			sectors := 0
			if more > 0 {
				sectors = (first+more-1)/256 - first/256 + 1
			}
			what := strconv.Itoa(first) + " and " + strconv.Itoa(more)
			wantCalls(t, what, d, sectors+3, func() api.Errno { return l.Append(s) })
			wantLog(t, what, l, first+more, api.OK)
			wantLaid(t, what, d, 0, text+s)
			wantSector(t, what, d, 0, rightOf(2, 0, text+s))
			wantSector(t, what, d, 1, rightOf(1, 0, text))
			wantText(t, what, d, text+s)
		}
	}
}

// grown is a disk with a log of so many bytes, appended at once.
func grown(t *testing.T, n int) (*disk.Disk, *wal.Log) {
	t.Helper()
	d := disk.New()
	l, _, _ := wal.Open(d)
	wantCalls(t, "the first", d, (n+255)/256+3, func() api.Errno { return l.Append(textOf(n, 3)) })
	return d, l
}

// wantLaid holds an area's sectors against the text: no sector is filled up.
func wantLaid(t *testing.T, what string, d *disk.Disk, area int, text string) {
	t.Helper()
	for i := range 127 {
		from, to := min(i*256, len(text)), min((i+1)*256, len(text))
		wantSector(t, what, d, 2+127*area+i, text[from:to])
	}
}

func TestP54ByteByByte(t *testing.T) {
	d := disk.New()
	l, _, _ := wal.Open(d)
	text := textOf(700, 5)
	for i := range len(text) {
		wantCalls(t, "a byte", d, 4, func() api.Errno { return l.Append(text[i : i+1]) })
		wantLog(t, "a byte", l, i+1, api.OK)
		wantSector(t, "a byte", d, 2+i/256, text[i/256*256:i+1])
		wantSector(t, "a byte", d, (i+1)%2, rightOf(uint64(i+1), 0, text[:i+1]))
	}
	wantLaid(t, "at the end", d, 0, text)
	wantText(t, "at the end", d, text)
}

func TestP54CheckpointAtTheEdges(t *testing.T) {
	for _, first := range []int{0, 1, 256, 300, roomiest} {
		for _, then := range edges() {
			d, l := grown(t, first)
			text, s := textOf(first, 3), textOf(then, 6)
			what := strconv.Itoa(first) + " then " + strconv.Itoa(then)
			wantCalls(t, what, d, (then+255)/256+3, func() api.Errno { return l.Checkpoint(s) })
			wantLog(t, what, l, then, api.OK)
			wantLaid(t, what, d, 0, text)
			wantLaid(t, what, d, 1, s)
			wantSector(t, what, d, 0, rightOf(2, 1, s))
			wantSector(t, what, d, 1, rightOf(1, 0, text))
			wantText(t, what, d, s)
		}
	}
}

func TestP54CheckpointAndBack(t *testing.T) {
	d := disk.New()
	l, _, _ := wal.Open(d)
	steps := []struct {
		checkpoint bool
		s, text    string
		area       int
	}{
		{false, "one", "one", 0},
		{true, "two", "two", 1},
		{false, "three", "twothree", 1},
		{true, "f", "f", 0},
		{false, "ive", "five", 0},
		{true, "", "", 1},
		{false, "six", "six", 1},
		{false, "", "six", 1},
		{true, "seven", "seven", 0},
		{true, "eight", "eight", 1},
	}
	for i, c := range steps {
		what := "step " + strconv.Itoa(i)
		step := l.Append
		if c.checkpoint {
			step = l.Checkpoint
		}
		wantErr(t, what, step(c.s), api.OK)
		wantSector(t, what, d, (i+1)%2, rightOf(uint64(i+1), byte(c.area), c.text))
		wantLog(t, what, l, len(c.text), api.OK)
		if c.text != "" {
			wantSector(t, what, d, 2+127*c.area, c.text)
		}
		// A log that was opened goes on as one that was there all along.
		l = wantText(t, what, d, c.text)
	}
}

// A shorter text leaves the sectors behind it as they are.
func TestP54CheckpointIntoWhatIsThere(t *testing.T) {
	d := disk.New()
	l, _, _ := wal.Open(d)
	long := textOf(600, 7)
	wantErr(t, "long", l.Append(long), api.OK)
	wantErr(t, "empty", l.Checkpoint(""), api.OK)
	wantErr(t, "short", l.Checkpoint("short"), api.OK)
	wantSector(t, "short", d, 2, "short")
	wantSector(t, "short", d, 3, long[256:512])
	l = wantText(t, "short", d, "short")
	wantErr(t, "Append", l.Append(textOf(251, 8)), api.OK)
	wantSector(t, "a full sector", d, 3, long[256:512])
	wantErr(t, "Append", l.Append("!"), api.OK)
	wantSector(t, "one more", d, 3, "!")
	wantSector(t, "one more", d, 4, long[512:])
	wantText(t, "one more", d, "short"+textOf(251, 8)+"!")
}

func TestP54WritesWhatIsThereAlready(t *testing.T) {
	d, text := disk.New(), textOf(600, 9)
	putArea(t, d, 0, text)
	putArea(t, d, 1, text)
	l, _, _ := wal.Open(d)
	wantCalls(t, "Append", d, 6, func() api.Errno { return l.Append(text) })
	wantCalls(t, "Checkpoint", d, 6, func() api.Errno { return l.Checkpoint(text) })
	wantCalls(t, "Checkpoint back", d, 6, func() api.Errno { return l.Checkpoint(text) })
	wantCalls(t, "Append of nothing", d, 3, func() api.Errno { return l.Append("") })
	wantText(t, "the same", d, text)
}

func TestP54Full(t *testing.T) {
	most := textOf(roomiest, 10)
	for _, n := range []int{0, 1, 256, 1000, roomiest - 1, roomiest} {
		d, l := grown(t, n)
		text, ops := textOf(n, 3), d.Ops()
		for _, more := range []int{roomiest - n + 1, roomiest - n + 256, roomiest + 1, 3 * roomiest} {
			wantErr(t, "Append of too much", l.Append(strings.Repeat("x", more)), api.ErrFull)
			wantLog(t, "Append of too much", l, n, api.OK)
		}
		for _, more := range []int{1, 100, roomiest} {
			wantErr(t, "Checkpoint of too much", l.Checkpoint(strings.Repeat("x", roomiest+more)), api.ErrFull)
			wantLog(t, "Checkpoint of too much", l, n, api.OK)
		}
		if d.Ops() != ops {
			t.Errorf("%d calls of the disk", d.Ops()-ops)
		}
		wantText(t, "refused", d, text)
		// Behind ErrFull the log goes on.
		wantErr(t, "Append", l.Append(most[n:]), api.OK)
		wantLog(t, "Append", l, roomiest, api.OK)
		wantText(t, "full", d, text+most[n:])
		wantErr(t, "Append of nothing", l.Append(""), api.OK)
		wantErr(t, "Append to what is full", l.Append("x"), api.ErrFull)
		wantErr(t, "Checkpoint", l.Checkpoint(most), api.OK)
		wantText(t, "full again", d, most)
	}
}

// The number goes round; the commit with the number 0 is not right.
func TestP54TheNumberGoesRound(t *testing.T) {
	d := disk.New()
	putArea(t, d, 0, "old")
	put(t, d, 1, rightOf(all, 0, "old"))
	l := wantText(t, "the greatest", d, "old")
	wantErr(t, "Append", l.Append("er"), api.OK)
	wantLog(t, "round", l, 5, api.OK)
	wantSector(t, "round", d, 2, "older")
	wantSector(t, "round", d, 0, rightOf(0, 0, "older"))
	wantSector(t, "round", d, 1, rightOf(all, 0, "old"))
	wantText(t, "round", d, "old")
	wantErr(t, "Append", l.Append("!"), api.OK)
	wantSector(t, "round and 1", d, 1, rightOf(1, 0, "older!"))
	wantSector(t, "round and 1", d, 0, rightOf(0, 0, "older"))
	wantText(t, "round and 1", d, "older!")
}

func TestP54TwoLogsHaveNothingInCommon(t *testing.T) {
	a, b := disk.New(), disk.New()
	x, y := wantText(t, "a", a, ""), wantText(t, "b", b, "")
	wantErr(t, "a", x.Append("of a"), api.OK)
	wantErr(t, "b", y.Checkpoint("b"), api.OK)
	a.Fail(0)
	wantErr(t, "a", x.Append("!"), api.ErrIO)
	wantErr(t, "b", y.Append("!"), api.OK)
	wantText(t, "a", a, "of a")
	wantText(t, "b", b, "b!")
	// On one disk each goes on from its own text, whatever the other did.
	z := wantText(t, "b", b, "b!")
	wantErr(t, "the other", z.Append("?"), api.OK)
	wantLog(t, "the one", y, 2, api.OK)
	wantErr(t, "the one", y.Append("."), api.OK)
	wantSector(t, "the one", b, 2+127, "b!.")
	wantLog(t, "the other", z, 3, api.OK)
}
