// Package little holds numbers in bytes, the lowest byte first, for the layers that don't stand on span.
package little

// Number is the number that bytes tell, 8 of them at most.
func Number(b []byte) uint64 {
	var v uint64
	for i, c := range b {
		v |= uint64(c) << (8 * i)
	}
	return v
}

// Bytes is the lowest bytes of a number, so many of them.
func Bytes(v uint64, n int) []byte {
	b := make([]byte, n)
	for i := range b {
		b[i] = byte(v >> (8 * i))
	}
	return b
}
