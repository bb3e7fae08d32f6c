package wal

import (
	"iter"
	"strings"

	"noonbell/api"
	"noonbell/disk"
)

// The disk: a sector for the commits with even numbers, one for those with odd
// numbers, and two areas of which the text lies in one.
const (
	commitSectors = 2
	areaSectors   = (api.Sectors - commitSectors) / 2
	areaBytes     = areaSectors * api.Sector
)

// sectorAt is the number of the sector that has byte at of the area.
func sectorAt(area, at int) int {
	return commitSectors + area*areaSectors + at/api.Sector
}

// changed tells each sector that has a byte of s, when s is laid down behind
// the text of the commit from, which ends in tail: its number, and its bytes.
func changed(from commit, tail, s string) iter.Seq2[int, string] {
	return func(yield func(int, string) bool) {
		if s == "" {
			return
		}
		i := sectorAt(from.area, from.length)
		for text := tail + s; text != ""; i++ {
			n := min(len(text), api.Sector)
			if !yield(i, text[:n]) {
				return
			}
			text = text[n:]
		}
	}
}

// tailOf is what of a text, or of its last sectors, lies in a sector that is
// not full.
func tailOf(text string) string {
	return text[len(text)-len(text)%api.Sector:]
}

// areaText answers the first bytes of an area.
func areaText(d *disk.Disk, area, length int) string {
	var b strings.Builder
	for b.Len() < length {
		// The number is always a sector's, and a read fails by nothing else.
		s, _ := d.Read(sectorAt(area, b.Len()))
		b.WriteString(s)
		b.WriteString(strings.Repeat("\x00", api.Sector-len(s)))
	}
	return b.String()[:length]
}
