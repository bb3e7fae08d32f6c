package wal

import "noonbell/disk"

// commit tells what the text is: the first bytes of an area, and their sum.
// The one with the number 0 stands for none.
type commit struct {
	number       uint64
	area, length int
	sum          uint32
}

// Where the parts of a commit end.
const (
	numberEnd = 8
	areaEnd   = numberEnd + 1
	lengthEnd = areaEnd + 4
	sumEnd    = lengthEnd + 4
	commitEnd = sumEnd + 4
)

const (
	sumStart  = 2166136261
	sumFactor = 16777619
)

// Sum answers 32 bits by which a text is told from most others.
func Sum(s string) uint32 {
	return sumOn(sumStart, s)
}

// sumOn is the sum of a text with s behind it, of the text's sum.
func sumOn(sum uint32, s string) uint32 {
	for i := range len(s) {
		sum = (sum ^ uint32(s[i])) * sumFactor
	}
	return sum
}

// anew is the commit of the empty text in the other area.
func (c commit) anew() commit {
	return commit{number: c.number, area: 1 - c.area, sum: Sum("")}
}

// with is the next commit, of the text with s behind it.
func (c commit) with(s string) commit {
	c.number++
	c.length += len(s)
	c.sum = sumOn(c.sum, s)
	return c
}

// sector is where the commit lies: never where the one ahead of it does.
func (c commit) sector() int {
	return int(c.number % commitSectors)
}

// text is the commit as it lies on the disk.
func (c commit) text() string {
	b := appendNumber(nil, c.number, numberEnd)
	b = append(b, byte(c.area))
	b = appendNumber(b, uint64(c.length), lengthEnd-areaEnd)
	b = appendNumber(b, uint64(c.sum), sumEnd-lengthEnd)
	b = appendNumber(b, uint64(Sum(string(b))), commitEnd-sumEnd)
	return string(b)
}

// rightCommit answers the commit in sector i, and the text that it tells of;
// that of no text, if it is not right.
func rightCommit(d *disk.Disk, i int) (commit, string) {
	// There always is a sector 0 and 1, and a read fails by nothing else.
	s, _ := d.Read(i)
	if c, ok := parse(s); ok {
		if text := areaText(d, c.area, c.length); Sum(text) == c.sum {
			return c, text
		}
	}
	return commit{sum: Sum("")}, ""
}

// parse answers the commit that s is, if it is right by itself: what it says
// of the area is not looked at.
func parse(s string) (commit, bool) {
	if len(s) != commitEnd || uint64(Sum(s[:sumEnd])) != numberOf(s[sumEnd:]) {
		return commit{}, false
	}
	number, area := numberOf(s[:numberEnd]), s[numberEnd]
	length, sum := numberOf(s[areaEnd:lengthEnd]), numberOf(s[lengthEnd:sumEnd])
	if number == 0 || area > 1 || length > areaBytes {
		return commit{}, false
	}
	return commit{number: number, area: int(area), length: int(length), sum: uint32(sum)}, true
}

// appendNumber lays n down in so many bytes, the highest first.
func appendNumber(b []byte, n uint64, many int) []byte {
	for i := range many {
		b = append(b, byte(n>>(8*(many-1-i))))
	}
	return b
}

// numberOf is the number whose bytes are those of s, the highest first.
func numberOf(s string) uint64 {
	var n uint64
	for i := range len(s) {
		n = n<<8 | uint64(s[i])
	}
	return n
}
