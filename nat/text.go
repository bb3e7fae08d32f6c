package nat

import (
	"slices"
	"strconv"
	"strings"

	"noonbell/api"
)

// Digits are read and told in chunks: as many as are sure to fit in a limb.
const (
	chunkDigits = 9
	chunkScale  = 1_000_000_000
)

// Parse answers the number whose text is s, or ErrText if there is none.
func Parse(s string) (Nat, api.Errno) {
	if !isText(s) {
		return Nat{}, api.ErrText
	}
	limbs := make([]uint32, len(s)/chunkDigits+1)
	chunk, scale := uint32(0), uint32(1)
	for i := range len(s) {
		chunk = chunk*10 + uint32(s[i]-'0')
		scale *= 10
		if scale == chunkScale || i == len(s)-1 {
			scaleUp(limbs, scale, chunk)
			chunk, scale = 0, 1
		}
	}
	return Nat{trim(limbs)}, api.OK
}

// Text answers its decimal digits, without noughts ahead.
func (a Nat) Text() string {
	if len(a.limbs) == 0 {
		return "0"
	}
	chunks := a.chunks()
	var text strings.Builder
	for i := range len(chunks) {
		digits := strconv.FormatUint(uint64(chunks[len(chunks)-1-i]), 10)
		if i > 0 {
			text.WriteString(strings.Repeat("0", chunkDigits-len(digits)))
		}
		text.WriteString(digits)
	}
	return text.String()
}

// chunks answers the number's digits chunk by chunk, least first.
func (a Nat) chunks() []uint32 {
	var chunks []uint32
	rest := slices.Clone(a.limbs)
	for len(rest) > 0 {
		chunks = append(chunks, divideByLimb(rest, chunkScale))
		rest = trim(rest)
	}
	return chunks
}

// isText tells whether s is the text of a number.
func isText(s string) bool {
	if s == "" || s[0] == '0' && s != "0" {
		return false
	}
	for i := range len(s) {
		if s[i] < '0' || s[i] > '9' {
			return false
		}
	}
	return true
}
