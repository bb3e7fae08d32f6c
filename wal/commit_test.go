package wal_test

import (
	"strconv"
	"strings"
	"testing"

	"noonbell/api"
	"noonbell/disk"
	"noonbell/wal"
)

// wrongCommits are commits that are not right, of a text that lies in both
// areas, each by one of its parts.
func wrongCommits(text string) map[string]string {
	n, sum := uint32(len(text)), fnv32(text)
	right := rightOf(9, 0, text)
	wrong := map[string]string{
		"no byte":                   "",
		"no last byte":              right[:20],
		"no first byte":             right[1:],
		"17 bytes":                  right[:17],
		"one byte more":             right + "\x00",
		"twice":                     right + right,
		"a sector":                  right + strings.Repeat("\x00", api.Sector-21),
		"N 0":                       commitOf(0, 0, n, sum),
		"area 2":                    commitOf(9, 2, n, sum),
		"area 3":                    commitOf(9, 3, n, sum),
		"area 128":                  commitOf(9, 128, n, sum),
		"area 255":                  commitOf(9, 255, n, sum),
		"area '0'":                  commitOf(9, '0', n, sum),
		"length less":               commitOf(9, 0, n-1, sum),
		"length more":               commitOf(9, 0, n+1, sum),
		"length 0":                  commitOf(9, 0, 0, sum),
		"all of the area":           commitOf(9, 0, roomiest, sum),
		"sum 0":                     commitOf(9, 0, n, 0),
		"sum of nothing":            commitOf(9, 0, n, fnv32("")),
		"sum's bytes the other way": commitOf(9, 0, n, sum<<24|sum>>24|sum<<8&0xFF0000|sum>>8&0xFF00),
		"last sum 0":                right[:17] + "\x00\x00\x00\x00",
		"last sum of less":          right[:17] + rightOf(9, 0, "")[17:],
		"only zeros":                strings.Repeat("\x00", 21),
	}
	wrong["a byte 0 ahead of the last sum"] = right[:17] + "\x00" + right[17:]
	for _, area := range []byte{2, 3, 127, 128, 255} {
		// No sector has these bytes, so they might be taken for 0.
		for _, n := range []int{0, 1, 256} {
			wrong["area "+strconv.Itoa(int(area))+", "+strconv.Itoa(n)+" zeros"] = rightOf(9, area, strings.Repeat("\x00", n))
		}
	}
	for at := range len(right) {
		for bit := range 8 {
			b := []byte(right)
			b[at] ^= 1 << bit
			wrong["byte "+strconv.Itoa(at)+", bit "+strconv.Itoa(bit)] = string(b)
		}
	}
	return wrong
}

func TestP52WrongCommits(t *testing.T) {
	text := textOf(300, 20)
	for what, wrong := range wrongCommits(text) {
		for _, sector := range []int{0, 1} {
			d := disk.New()
			putArea(t, d, 0, text)
			put(t, d, sector, wrong)
			l := wantText(t, what+", alone", d, "")
			putArea(t, d, 1, "elder")
			put(t, d, 1-sector, rightOf(1, 1, "elder"))
			wantText(t, what+", beside a right one", d, "elder")
			put(t, d, sector, rightOf(9, 0, text))
			wantText(t, what+", but right", d, text)
			// The log that found none began with N 0 in area 0.
			wantErr(t, what, l.Append("x"), api.OK)
			wantSector(t, what, d, 1, rightOf(1, 0, "x"))
		}
	}
}

// The empty text is one like others: it stands in the stead of an elder one.
func TestP52TheEmptyText(t *testing.T) {
	for _, sector := range []int{0, 1} {
		for _, area := range []byte{0, 1} {
			d := disk.New()
			putArea(t, d, 0, "elder")
			putArea(t, d, 1, "elder")
			put(t, d, 1-sector, rightOf(8, 1-area, "elder"))
			put(t, d, sector, rightOf(9, area, ""))
			l := wantText(t, "empty", d, "")
			wantErr(t, "Append", l.Append("new"), api.OK)
			wantSector(t, "Append", d, 2+127*int(area), "new")
			wantSector(t, "Append", d, 0, rightOf(10, area, "new"))
		}
	}
}

// One that were right but for what it says of the length.
func TestP52LengthTooGreat(t *testing.T) {
	for _, area := range []byte{0, 1} {
		d := disk.New()
		putArea(t, d, 0, textOf(roomiest, 21))
		putArea(t, d, 1, textOf(roomiest, 22))
		both := textOf(roomiest, 21) + textOf(roomiest, 22) + strings.Repeat("\x00", 512)
		from := both[roomiest*int(area):]
		put(t, d, 0, rightOf(1, area, from[:roomiest]))
		wantText(t, "just so much", d, from[:roomiest])
		for _, n := range []int{roomiest + 1, roomiest + 2, roomiest + 256} {
			put(t, d, 0, rightOf(1, area, from[:n]))
			wantText(t, "more", d, "")
		}
		for _, n := range []uint32{1 << 15, 1 << 16, 1 << 24, 1<<31 - 1, 1 << 31, 1<<32 - 1} {
			for _, sum := range []uint32{0, fnv32(""), fnv32(from[:roomiest])} {
				put(t, d, 0, commitOf(1, area, n, sum))
				wantText(t, "far more", d, "")
			}
		}
	}
}

// Where the areas begin and end on the disk.
func TestP52Areas(t *testing.T) {
	for area, first := range []int{2, 129} {
		d, text := disk.New(), textOf(roomiest, 23)
		for i := range api.Sectors {
			put(t, d, i, strings.Repeat("?", api.Sector))
		}
		for i := range 127 {
			put(t, d, first+i, text[i*256:(i+1)*256])
		}
		for n := range 127 {
			short := text[:n*256+n*2+1]
			put(t, d, 0, rightOf(1, byte(area), short))
			wantText(t, "area "+strconv.Itoa(area), d, short)
		}
		put(t, d, 1, rightOf(2, byte(area), text))
		wantText(t, "the whole area "+strconv.Itoa(area), d, text)
	}
}

func TestP52ShorterSectors(t *testing.T) {
	zeros := func(n int) string { return strings.Repeat("\x00", n) }
	full := textOf(256, 24)
	table := []struct {
		sectors []string
		text    string
	}{
		{nil, zeros(1)},
		{nil, zeros(roomiest)},
		{[]string{"ab"}, "a"},
		{[]string{"ab"}, "ab"},
		{[]string{"ab"}, "ab" + zeros(1)},
		{[]string{"ab"}, "ab" + zeros(254)},
		{[]string{"ab"}, "ab" + zeros(255)},
		{[]string{"ab", "cd"}, "ab" + zeros(254) + "c"},
		{[]string{"ab", "cd"}, "ab" + zeros(254) + "cd" + zeros(3)},
		{[]string{"", "cd"}, zeros(256) + "cd"},
		{[]string{full[:255], full}, full[:255] + zeros(1) + full},
		{[]string{full, full[:255], full}, full + full[:255] + zeros(1) + full[:100]},
	}
	for i, c := range table {
		for _, area := range []int{0, 1} {
			what := "row " + strconv.Itoa(i) + ", area " + strconv.Itoa(area)
			d := disk.New()
			for k, s := range c.sectors {
				put(t, d, 2+127*area+k, s)
			}
			put(t, d, 1, rightOf(3, byte(area), c.text))
			l := wantText(t, what, d, c.text)
			if len(c.text) == roomiest {
				continue
			}
			// The bytes that a sector was filled up with are the text's now.
			wantErr(t, what, l.Append("end"), api.OK)
			at := len(c.text) / 256
			wantSector(t, what, d, 2+127*area+at, (c.text + "end")[at*256:min(at*256+256, len(c.text)+3)])
			wantSector(t, what, d, 0, rightOf(4, byte(area), c.text+"end"))
			wantText(t, what, d, c.text+"end")
		}
	}
	// The commit itself is not filled up.
	d := disk.New()
	put(t, d, 0, strings.TrimRight(commitOf(1, 0, 0, fnv32("")), "\x00"))
	wantText(t, "empty", d, "")
}

func TestP52TheCommitThatIsWritten(t *testing.T) {
	d := disk.New()
	l, _, _ := wal.Open(d)
	wantErr(t, "Append", l.Append("a"), api.OK)
	wantSector(t, "by hand", d, 1, "\x00\x00\x00\x00\x00\x00\x00\x01\x00\x00\x00\x00\x01\xe4\x0c\x29\x2c"+lastSum("\x00\x00\x00\x00\x00\x00\x00\x01\x00\x00\x00\x00\x01\xe4\x0c\x29\x2c"))
	wantErr(t, "Checkpoint", l.Checkpoint(strings.Repeat("x", 300)), api.OK)
	sum := fnv32(strings.Repeat("x", 300))
	body := "\x00\x00\x00\x00\x00\x00\x00\x02\x01\x00\x00\x01\x2c" + string([]byte{byte(sum >> 24), byte(sum >> 16), byte(sum >> 8), byte(sum)})
	wantSector(t, "by hand", d, 0, body+lastSum(body))
}

func lastSum(s string) string {
	sum := fnv32(s)
	return string([]byte{byte(sum >> 24), byte(sum >> 16), byte(sum >> 8), byte(sum)})
}
