package exec

import (
	"math/bits"

	"shackle/api"
)

// reckon does what reckons with two values and writes the outcome into A, but of OpCmp and OpTest.
func (s *step) reckon() error {
	if s.inst.Op == api.OpImul {
		return s.multiply()
	}
	a, err := s.value(s.inst.A)
	if err != nil {
		return err
	}
	b, err := s.value(s.inst.B)
	if err != nil {
		return err
	}
	w := s.inst.A.Width
	switch s.inst.Op {
	case api.OpCmp:
		s.subtract(a, b, w)
		return nil
	case api.OpTest:
		s.logic(a&b, w)
		return nil
	case api.OpAdd:
		a = s.add(a, b, w)
	case api.OpSub:
		a = s.subtract(a, b, w)
	case api.OpAnd:
		a = s.logic(a&b, w)
	case api.OpOr:
		a = s.logic(a|b, w)
	case api.OpXor:
		a = s.logic(a^b, w)
	default:
		a = s.shift(a, b, w)
	}
	return s.write(s.inst.A, a)
}

// turn does what reckons with one value.
func (s *step) turn() error {
	a, err := s.value(s.inst.A)
	if err != nil {
		return err
	}
	w, carry := s.inst.A.Width, s.CF
	switch s.inst.Op {
	case api.OpNot:
		a = ^a
	case api.OpNeg:
		a = s.subtract(0, a, w)
	case api.OpInc:
		a = s.add(a, 1, w)
		s.CF = carry
	case api.OpDec:
		a = s.subtract(a, 1, w)
		s.CF = carry
	}
	return s.write(s.inst.A, a)
}

// result sets the three flags of a result of w bytes, which it answers.
func (s *step) result(v uint64, w int) uint64 {
	v = low(v, w)
	s.ZF = v == 0
	s.SF = top(v, w)
	s.PF = bits.OnesCount8(uint8(v))%2 == 0
	return v
}

// logic is a result that goes over no bound.
func (s *step) logic(v uint64, w int) uint64 {
	s.CF, s.OF = false, false
	return s.result(v, w)
}

// add is a sum of w bytes.
func (s *step) add(a, b uint64, w int) uint64 {
	sum := s.result(a+b, w)
	s.CF = sum < a
	s.OF = top(a, w) == top(b, w) && top(sum, w) != top(a, w)
	return sum
}

// subtract is a difference of w bytes.
func (s *step) subtract(a, b uint64, w int) uint64 {
	rest := s.result(a-b, w)
	s.CF = a < b
	s.OF = top(a, w) != top(b, w) && top(rest, w) != top(a, w)
	return rest
}

// multiply does OpImul: what goes over w bytes is told by CF and OF.
func (s *step) multiply() error {
	x, y := s.inst.A, s.inst.B
	if s.inst.C.Kind != api.NoOperand {
		x, y = s.inst.B, s.inst.C
	}
	a, err := s.value(x)
	if err != nil {
		return err
	}
	b, err := s.value(y)
	if err != nil {
		return err
	}
	w := s.inst.A.Width
	high, low := product(signed(a, w), signed(b, w))
	part := signed(low, w)
	s.CF = high != part>>63 || uint64(part) != low
	s.OF = s.CF
	return s.write(s.inst.A, low)
}

// product is the upper and the lower half of a product of numbers with signs.
func product(a, b int64) (int64, uint64) {
	high, low := bits.Mul64(uint64(a), uint64(b))
	if a < 0 {
		high -= uint64(b)
	}
	if b < 0 {
		high -= uint64(a)
	}
	return int64(high), low
}

// shift is a value of w bytes, shifted.
func (s *step) shift(a, by uint64, w int) uint64 {
	count := by % 32
	if w == 8 {
		count = by % 64
	}
	if count == 0 {
		return a
	}
	size := uint64(8 * w)
	var v uint64
	switch s.inst.Op {
	case api.OpShl:
		v = s.result(a<<count, w)
		s.CF = a>>(size-count)&1 == 1
	case api.OpShr:
		v = s.result(a>>count, w)
		s.CF = a>>(count-1)&1 == 1
	case api.OpSar:
		v = s.result(uint64(signed(a, w)>>count), w)
		s.CF = a>>(count-1)&1 == 1
	}
	if count == 1 {
		s.OF = s.inst.Op == api.OpShl && top(v, w) != s.CF || s.inst.Op == api.OpShr && top(a, w)
	}
	return v
}
