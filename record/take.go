package record

import "noonbell/api"

// taker hands out a text's bytes one by one; false, when there are no more.
type taker func() (byte, bool)

// takeRecord answers the next record; false, if what comes is none's form.
func takeRecord(take taker) (api.Record, bool) {
	kind, ok := take()
	if !ok || kind == 0 {
		return api.Record{}, false
	}
	who, ok := takeText(take, shortCount, maxWho)
	if !ok {
		return api.Record{}, false
	}
	nums, ok := takeNums(take)
	if !ok {
		return api.Record{}, false
	}
	text, ok := takeText(take, longCount, maxText)
	if !ok {
		return api.Record{}, false
	}
	return api.Record{Kind: int(kind), Who: who, Nums: nums, Text: text}, true
}

// takeText answers the next text, which stands behind its count.
func takeText(take taker, width, most int) (string, bool) {
	n, ok := takeCount(take, width, most)
	if !ok {
		return "", false
	}
	var b []byte
	for range n {
		c, ok := take()
		if !ok {
			return "", false
		}
		b = append(b, c)
	}
	return string(b), true
}

// takeNums answers the next numbers, which stand behind their count.
func takeNums(take taker) ([]int, bool) {
	n, ok := takeCount(take, shortCount, maxNums)
	if !ok {
		return nil, false
	}
	var l []int
	for range n {
		z, ok := takeGroups(take)
		if !ok {
			return nil, false
		}
		l = append(l, unzigzag(z))
	}
	return l, true
}

// takeCount answers the next count; false, if it is more than the most.
func takeCount(take taker, width, most int) (int, bool) {
	n := 0
	for range width {
		c, ok := take()
		if !ok {
			return 0, false
		}
		n = n<<8 | int(c)
	}
	return n, n <= most
}

// takeGroups answers the number whose groups come next; false, if it is no
// uint, or if fewer groups would have done.
func takeGroups(take taker) (uint, bool) {
	var z uint
	for shift := 0; ; shift += groupBits {
		c, ok := take()
		group := uint(c % more)
		if !ok || group<<shift>>shift != group {
			return 0, false
		}
		z |= group << shift
		if c < more {
			return z, c > 0 || shift == 0
		}
	}
}
