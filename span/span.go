// Package span is layer 1: numbers and bytes within bounds, without overflow.
package span

import (
	"bytes"
	"math/bits"

	"shackle/api"
)

// Sum is all numbers together.
func Sum(l ...uint64) (uint64, error) {
	var sum uint64
	for _, v := range l {
		next, carry := bits.Add64(sum, v, 0)
		if carry != 0 {
			return 0, api.ErrOver
		}
		sum = next
	}
	return sum, nil
}

// Times is the product.
func Times(a, b uint64) (uint64, error) {
	high, low := bits.Mul64(a, b)
	if high != 0 {
		return 0, api.ErrOver
	}
	return low, nil
}

// Up is the least number from a on that is a multiple of another one.
func Up(a, to uint64) (uint64, error) {
	if bits.OnesCount64(to) != 1 {
		return 0, api.ErrArg
	}
	above, err := Sum(a, to-1)
	if err != nil {
		return 0, err
	}
	return above &^ (to - 1), nil
}

// In tells whether so many bytes from a place on lie within so many.
func In(size, off, n uint64) bool {
	return off <= size && n <= size-off
}

// Cut is so many bytes from a place on.
func Cut(b []byte, off, n uint64) ([]byte, error) {
	if !In(uint64(len(b)), off, n) {
		return nil, &api.Spot{At: off, Err: api.ErrRange}
	}
	return bytes.Clone(b[off : off+n]), nil
}

// Get is the number of so many bytes at a place.
func Get(b []byte, off uint64, n int) (uint64, error) {
	if _, ok := greatest(n); !ok {
		return 0, api.ErrArg
	}
	l, err := Cut(b, off, uint64(n))
	if err != nil {
		return 0, err
	}
	var v uint64
	for i, c := range l {
		v |= uint64(c) << (8 * i)
	}
	return v, nil
}

// Put is the bytes with a number of so many bytes at a place.
func Put(b []byte, off uint64, n int, v uint64) ([]byte, error) {
	most, ok := greatest(n)
	if !ok {
		return nil, api.ErrArg
	}
	if !In(uint64(len(b)), off, uint64(n)) {
		return nil, &api.Spot{At: off, Err: api.ErrRange}
	}
	if v > most {
		return nil, api.ErrOver
	}
	l := bytes.Clone(b)
	lay(l[off:], n, v)
	return l, nil
}

// Text is the text that begins at a place.
func Text(b []byte, off uint64) (string, error) {
	if off >= uint64(len(b)) {
		return "", &api.Spot{At: off, Err: api.ErrRange}
	}
	end := bytes.IndexByte(b[off:], 0)
	if end < 0 {
		return "", &api.Spot{At: off, Err: api.ErrText}
	}
	return string(b[off : off+uint64(end)]), nil
}

// Join is numbers of so many bytes each, one behind the other.
func Join(n int, l ...uint64) ([]byte, error) {
	most, ok := greatest(n)
	if !ok {
		return nil, api.ErrArg
	}
	var b []byte
	for i, v := range l {
		if v > most {
			return nil, api.ErrOver
		}
		b = append(b, make([]byte, n)...)
		lay(b[i*n:], n, v)
	}
	return b, nil
}

// greatest is the greatest number of a width: each width has the bytes of those below it, too.
func greatest(n int) (uint64, bool) {
	var v uint64
	switch n {
	case 8:
		v |= 0xffffffff << 32
		fallthrough
	case 4:
		v |= 0xffff << 16
		fallthrough
	case 2:
		v |= 0xff << 8
		fallthrough
	case 1:
		return v | 0xff, true
	}
	return 0, false
}

// lay writes the n lowest bytes of a number, the lowest first.
func lay(b []byte, n int, v uint64) {
	for i := range n {
		b[i] = byte(v >> (8 * i))
	}
}
