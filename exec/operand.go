package exec

import "shackle/api"

// addr is a memory operand's address.
func (s *step) addr(o api.Operand) uint64 {
	at := uint64(o.Disp)
	if o.Base >= 0 {
		at += s.R[o.Base]
	}
	if o.Index >= 0 {
		at += s.R[o.Index] * uint64(o.Scale)
	}
	if o.Next {
		at += s.IP
	}
	if o.Seg {
		at += s.FS
	}
	return at
}

// value is that of an operand.
func (s *step) value(o api.Operand) (uint64, error) {
	switch o.Kind {
	case api.Register:
		return low(s.R[o.Reg], o.Width), nil
	case api.Immediate:
		return low(uint64(o.Imm), o.Width), nil
	case api.Memory:
		return s.read(s.addr(o), o.Width)
	}
	return 0, nil
}

// write writes an operand.
func (s *step) write(o api.Operand, v uint64) error {
	if o.Kind == api.Memory {
		return s.lay(s.addr(o), v, o.Width)
	}
	if o.Width == 1 {
		v = s.R[o.Reg]&^0xff | low(v, 1)
	}
	if o.Width == 4 {
		v = low(v, 4)
	}
	s.R[o.Reg] = v
	return nil
}

// read is w bytes of memory.
func (s *step) read(at uint64, w int) (uint64, error) {
	b, err := s.mem.Read(at, uint64(w))
	if err != nil {
		return 0, err
	}
	var v uint64
	for i := range w {
		v |= uint64(b[i]) << (8 * i)
	}
	return v, nil
}

// lay writes w bytes of memory.
func (s *step) lay(at, v uint64, w int) error {
	b := make([]byte, w)
	for i := range w {
		b[i] = byte(v >> (8 * i))
	}
	return s.mem.Write(at, b)
}

// push writes 8 bytes below register 4, which goes down to them.
func (s *step) push(v uint64) error {
	s.R[stack] -= 8
	return s.lay(s.R[stack], v, 8)
}

// pop reads 8 bytes at register 4, which goes up behind them.
func (s *step) pop() (uint64, error) {
	v, err := s.read(s.R[stack], 8)
	s.R[stack] += 8
	return v, err
}

// low is a number's lowest w bytes.
func low(v uint64, w int) uint64 {
	return v << (64 - 8*w) >> (64 - 8*w)
}

// signed is a number of w bytes, with its sign.
func signed(v uint64, w int) int64 {
	return int64(v<<(64-8*w)) >> (64 - 8*w)
}

// top is the top bit of a number of w bytes.
func top(v uint64, w int) bool { return v>>(8*w-1)&1 == 1 }

// flag is 1 or 0.
func flag(holds bool) uint64 {
	if holds {
		return 1
	}
	return 0
}
