package decode

import (
	"bytes"
	"math/bits"

	"shackle/api"
)

// Encode is the bytes of an instruction.
func Encode(i api.Inst) ([]byte, error) {
	var best []byte
	for code := range 256 {
		for _, o := range []opcode{{code: byte(code)}, {code: byte(code), escaped: true}} {
			for _, b := range o.all(i) {
				if isInst(b, i) && (best == nil || ahead(b, best)) {
					best = b
				}
			}
		}
	}
	if best == nil {
		return nil, api.ErrForm
	}
	return best, nil
}

// Asm is the bytes of instructions, one behind the other.
func Asm(l ...api.Inst) ([]byte, error) {
	var all []byte
	for n, i := range l {
		b, err := Encode(i)
		if err != nil {
			return nil, &api.Spot{At: uint64(n), Err: api.ErrForm}
		}
		all = append(all, b...)
	}
	return all, nil
}

// isInst tells whether bytes are those of an instruction: whatever was laid for it is right, if that is what it decodes to.
func isInst(b []byte, i api.Inst) bool {
	got, err := Decode(b)
	i.Size = len(b)
	return err == nil && got == i
}

// ahead tells whether bytes are fewer than others, or as many and ahead of them.
func ahead(b, o []byte) bool {
	if len(b) != len(o) {
		return len(b) < len(o)
	}
	return bytes.Compare(b, o) < 0
}

// all is what an opcode, with its digits and either width, may lay for an instruction.
func (o opcode) all(i api.Inst) [][]byte {
	digits := byte(1)
	if o.grouped() {
		digits = 8
	}
	var l [][]byte
	for o.digit = range digits {
		for _, ext := range []byte{0, extW} {
			o.ext = ext
			if x, ok := o.row(); ok && int(x.op) == i.Op && int(x.cond) == i.Cond {
				l = append(l, o.lay(x, i)...)
			}
		}
	}
	return l
}

// lay is what a row may lay for an instruction.
func (o opcode) lay(x row, i api.Inst) [][]byte {
	w := writer{ext: o.ext, middle: o.digit, code: o.code}
	tails := [][]byte{nil}
	for _, t := range []struct {
		part
		api.Operand
	}{{x.a, i.A}, {x.b, i.B}, {x.c, i.C}} {
		if !o.suits(t.kind, t.Operand) {
			return nil
		}
		tails = w.operand(tails, t.kind, t.Operand)
	}
	var l [][]byte
	for _, tail := range tails {
		l = append(l, w.whole(o.escaped, x.formed(), tail)...)
	}
	return l
}

// suits tells whether an operand is of the kind that a part tells: this spares laying most of what isn't right.
func (o opcode) suits(kind byte, x api.Operand) bool {
	switch kind {
	case absent:
		return x.Kind == api.NoOperand
	case regG, regA, regC:
		return x.Kind == api.Register
	case regOp:
		return x.Kind == api.Register && byte(x.Reg)&7 == o.code&7
	case either:
		return x.Kind == api.Register || x.Kind == api.Memory
	case memory:
		return x.Kind == api.Memory
	}
	return x.Kind == api.Immediate
}

// writer lays an instruction's bytes: what an operand tells of the extension and the form byte's middle bits is noted, the rest is what follows the opcode.
type writer struct {
	seg          bool
	ext          byte
	code, middle byte
}

// operand lays an operand behind each of some tails. (The form byte begins a tail; its middle bits are put in at last.)
func (w *writer) operand(tails [][]byte, kind byte, o api.Operand) [][]byte {
	switch kind {
	case regG:
		w.middle = byte(o.Reg) & 7
		w.extend(o.Reg, extR)
	case regOp:
		w.extend(o.Reg, extB)
	case imm1:
		return behind(tails, number(o.Imm, 1))
	case imm4:
		return behind(tails, number(o.Imm, 4))
	case imm8:
		return behind(tails, number(o.Imm, 8))
	case either, memory:
		if o.Kind == api.Register {
			w.extend(o.Reg, extB)
			return behind(tails, []byte{direct<<6 | byte(o.Reg)&7})
		}
		return behind(tails, w.memory(o)...)
	}
	return tails
}

// memory is the ways in which a memory operand may be told: with a form byte, what follows it, and as few bytes of Disp as they have.
func (w *writer) memory(o api.Operand) [][]byte {
	w.seg = o.Seg
	far := number(o.Disp, 4)
	if o.Next {
		return [][]byte{append([]byte{5}, far...)}
	}
	index := byte(4)
	if o.Index >= 0 {
		index = byte(o.Index) & 7
		w.extend(o.Index, extX)
	}
	second := byte(bits.TrailingZeros8(byte(o.Scale)))<<6 | index<<3
	if o.Base < 0 {
		return [][]byte{append([]byte{4, second | 5}, far...)}
	}
	low := byte(o.Base) & 7
	w.extend(o.Base, extB)
	var l [][]byte
	for mode, disp := range [][]byte{nil, number(o.Disp, 1), far} {
		form := byte(mode) << 6
		l = append(l, append([]byte{form | 4, second | low}, disp...))
		if o.Index < 0 {
			l = append(l, append([]byte{form | low}, disp...))
		}
	}
	return l
}

// extend notes a register's highest bit.
func (w *writer) extend(reg int, bit byte) {
	if reg&8 != 0 {
		w.ext |= bit
	}
}

// whole is a tail with all that stands ahead of it; without bits the extension may stand there or not.
func (w *writer) whole(escaped, formed bool, tail []byte) [][]byte {
	rest := []byte{w.code}
	if escaped {
		rest = []byte{escape, w.code}
	}
	at := len(rest)
	rest = append(rest, tail...)
	if formed {
		rest[at] |= w.middle << 3
	}
	extended := append([]byte{extBits | w.ext}, rest...)
	l := [][]byte{extended}
	if w.ext == 0 {
		l = append(l, rest)
	}
	if w.seg {
		for i, b := range l {
			l[i] = append([]byte{segment}, b...)
		}
	}
	return l
}

// behind is each of some bytes behind each tail.
func behind(tails [][]byte, l ...[]byte) [][]byte {
	var out [][]byte
	for _, t := range tails {
		for _, b := range l {
			out = append(out, bytes.Join([][]byte{t, b}, nil))
		}
	}
	return out
}

// number is the lowest bytes of a number.
func number(v int64, n int) []byte {
	var b []byte
	for i := range n {
		b = append(b, byte(v>>(8*i)))
	}
	return b
}
