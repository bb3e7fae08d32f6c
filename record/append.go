package record

// appendText lays s down behind its count.
func appendText(b []byte, s string, width int) []byte {
	return append(appendCount(b, len(s), width), s...)
}

// appendCount lays n down in so many bytes, the highest first.
func appendCount(b []byte, n, width int) []byte {
	for i := range width {
		b = append(b, byte(n>>(8*(width-1-i))))
	}
	return b
}

// appendGroups lays z down in as few groups as can be.
func appendGroups(b []byte, z uint) []byte {
	for ; z >= more; z >>= groupBits {
		b = append(b, byte(z)|more)
	}
	return append(b, byte(z))
}
