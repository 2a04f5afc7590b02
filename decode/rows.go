package decode

import "shackle/api"

// Kinds of an operand's part in the bytes.
const (
	absent = iota
	regG   // the register that the form byte's middle bits tell
	either // a register or memory, by the form byte
	memory // memory, by the form byte
	regOp  // the register that the opcode tells
	regA   // register 0
	regC   // register 1
	imm1   // a number of so many bytes
	imm4
	imm8
	one // the number 1
)

// wide is the width that hangs on the extension.
const wide = 0

// part is an operand, as the bytes have it.
type part struct{ kind, width byte }

// row is what an opcode tells.
type row struct {
	op, cond byte
	a, b, c  part
}

// has tells whether one of its operands is of one of some kinds.
func (x row) has(kinds ...byte) bool {
	for _, k := range kinds {
		if x.a.kind == k || x.b.kind == k || x.c.kind == k {
			return true
		}
	}
	return false
}

// formed tells whether a form byte follows the opcode.
func (x row) formed() bool { return x.has(regG, either, memory) }

// reaches tells whether it may reach memory in the segment.
func (x row) reaches() bool { return x.has(either) }

// opcode is an opcode, with the digit of its form byte, where that tells what it is.
type opcode struct {
	escaped     bool
	code, digit byte
	ext         byte
}

// sized is a part whose width the opcode's lowest bit tells.
func (o opcode) sized(kind byte) part {
	if o.code&1 == 0 {
		return part{kind, 1}
	}
	return part{kind, wide}
}

// number is a number of the width of such a part: of 1 or 4 bytes.
func (o opcode) number() part {
	if o.code&1 == 0 {
		return part{imm1, 1}
	}
	return part{imm4, wide}
}

// grouped tells whether the digit tells what it is.
func (o opcode) grouped() bool {
	if o.escaped {
		return o.code == 0x1f
	}
	switch o.code {
	case 0x80, 0x81, 0x83, 0xc1, 0xc6, 0xc7, 0xd1, 0xd3, 0xf6, 0xf7, 0xff:
		return true
	}
	return false
}

// row is its row; false, if it is none.
func (o opcode) row() (row, bool) {
	var x row
	switch {
	case o.escaped:
		x = o.second()
	case o.grouped():
		x = o.group()
	case o.code < 0x40:
		x = o.reckon()
	case o.code < 0x80:
		x = o.low()
	default:
		x = o.upper()
	}
	return x, x.op != api.OpNone
}

// reckoning is the operation that three bits tell.
func reckoning(k byte) byte {
	switch k {
	case 0:
		return api.OpAdd
	case 1:
		return api.OpOr
	case 4:
		return api.OpAnd
	case 5:
		return api.OpSub
	case 6:
		return api.OpXor
	case 7:
		return api.OpCmp
	}
	return api.OpNone
}

// shifting is likewise the operation of a shift.
func shifting(k byte) byte {
	switch k {
	case 4:
		return api.OpShl
	case 5:
		return api.OpShr
	case 7:
		return api.OpSar
	}
	return api.OpNone
}

// reckon is an opcode up to 3f.
func (o opcode) reckon() row {
	op := reckoning(o.code >> 3)
	switch o.code & 7 {
	case 0, 1:
		return row{op: op, a: o.sized(either), b: o.sized(regG)}
	case 2, 3:
		return row{op: op, a: o.sized(regG), b: o.sized(either)}
	case 4, 5:
		return row{op: op, a: o.sized(regA), b: o.number()}
	}
	return row{}
}

// low is an opcode from 40 to 7f.
func (o opcode) low() row {
	switch {
	case o.code >= 0x50 && o.code <= 0x57:
		return row{op: api.OpPush, a: part{regOp, 8}}
	case o.code >= 0x58 && o.code <= 0x5f:
		return row{op: api.OpPop, a: part{regOp, 8}}
	case o.code == 0x63 && o.ext&extW != 0:
		return row{op: api.OpSign, a: part{regG, 8}, b: part{either, 4}}
	case o.code == 0x68:
		return row{op: api.OpPush, a: part{imm4, 8}}
	case o.code == 0x6a:
		return row{op: api.OpPush, a: part{imm1, 8}}
	case o.code == 0x69:
		return row{op: api.OpImul, a: part{regG, wide}, b: part{either, wide}, c: part{imm4, wide}}
	case o.code == 0x6b:
		return row{op: api.OpImul, a: part{regG, wide}, b: part{either, wide}, c: part{imm1, wide}}
	case o.code >= 0x70:
		return row{op: api.OpJcc, cond: o.code & 15, a: part{imm1, 8}}
	}
	return row{}
}

// upper is an opcode from 80 on that tells by itself what it is.
func (o opcode) upper() row {
	switch o.code {
	case 0x84, 0x85:
		return row{op: api.OpTest, a: o.sized(either), b: o.sized(regG)}
	case 0x88, 0x89:
		return row{op: api.OpMov, a: o.sized(either), b: o.sized(regG)}
	case 0x8a, 0x8b:
		return row{op: api.OpMov, a: o.sized(regG), b: o.sized(either)}
	case 0x8d:
		return row{op: api.OpLea, a: part{regG, wide}, b: part{memory, wide}}
	case 0x90:
		if o.ext&extB == 0 {
			return row{op: api.OpNop}
		}
	case 0xa8, 0xa9:
		return row{op: api.OpTest, a: o.sized(regA), b: o.number()}
	case 0xc3:
		return row{op: api.OpRet}
	case 0xc9:
		return row{op: api.OpLeave}
	case 0xe8:
		return row{op: api.OpCall, a: part{imm4, 8}}
	case 0xe9:
		return row{op: api.OpJmp, a: part{imm4, 8}}
	case 0xeb:
		return row{op: api.OpJmp, a: part{imm1, 8}}
	case 0xf4:
		return row{op: api.OpHlt}
	}
	return o.load()
}

// load is an opcode that loads a number into a register.
func (o opcode) load() row {
	switch {
	case o.code >= 0xb0 && o.code <= 0xb7:
		return row{op: api.OpMov, a: part{regOp, 1}, b: part{imm1, 1}}
	case o.code >= 0xb8 && o.code <= 0xbf && o.ext&extW != 0:
		return row{op: api.OpMov, a: part{regOp, wide}, b: part{imm8, 8}}
	case o.code >= 0xb8 && o.code <= 0xbf:
		return row{op: api.OpMov, a: part{regOp, wide}, b: part{imm4, 4}}
	}
	return row{}
}

// group is an opcode whose digit tells what it is.
func (o opcode) group() row {
	switch o.code {
	case 0x80, 0x81:
		return row{op: reckoning(o.digit), a: o.sized(either), b: o.number()}
	case 0x83:
		return row{op: reckoning(o.digit), a: part{either, wide}, b: part{imm1, wide}}
	case 0xc1:
		return row{op: shifting(o.digit), a: part{either, wide}, b: part{imm1, 1}}
	case 0xd1:
		return row{op: shifting(o.digit), a: part{either, wide}, b: part{one, 1}}
	case 0xd3:
		return row{op: shifting(o.digit), a: part{either, wide}, b: part{regC, 1}}
	case 0xc6, 0xc7:
		if o.digit == 0 {
			return row{op: api.OpMov, a: o.sized(either), b: o.number()}
		}
	case 0xf6, 0xf7:
		return o.single()
	case 0xff:
		return o.last()
	}
	return row{}
}

// single is f6 or f7.
func (o opcode) single() row {
	switch o.digit {
	case 0:
		return row{op: api.OpTest, a: o.sized(either), b: o.number()}
	case 2:
		return row{op: api.OpNot, a: o.sized(either)}
	case 3:
		return row{op: api.OpNeg, a: o.sized(either)}
	}
	return row{}
}

// last is ff.
func (o opcode) last() row {
	switch o.digit {
	case 0:
		return row{op: api.OpInc, a: part{either, wide}}
	case 1:
		return row{op: api.OpDec, a: part{either, wide}}
	case 2:
		return row{op: api.OpCall, a: part{either, 8}}
	case 4:
		return row{op: api.OpJmp, a: part{either, 8}}
	case 6:
		return row{op: api.OpPush, a: part{either, 8}}
	}
	return row{}
}

// second is an opcode behind 0f.
func (o opcode) second() row {
	cond := o.code & 15
	switch {
	case o.code == 0x1f && o.digit == 0:
		return row{op: api.OpNop, a: part{either, wide}}
	case o.code >= 0x40 && o.code <= 0x4f:
		return row{op: api.OpCmov, cond: cond, a: part{regG, wide}, b: part{either, wide}}
	case o.code >= 0x80 && o.code <= 0x8f:
		return row{op: api.OpJcc, cond: cond, a: part{imm4, 8}}
	case o.code >= 0x90 && o.code <= 0x9f:
		return row{op: api.OpSet, cond: cond, a: part{either, 1}}
	case o.code == 0xaf:
		return row{op: api.OpImul, a: part{regG, wide}, b: part{either, wide}}
	case o.code == 0xb6:
		return row{op: api.OpZero, a: part{regG, wide}, b: part{either, 1}}
	case o.code == 0xbe:
		return row{op: api.OpSign, a: part{regG, wide}, b: part{either, 1}}
	}
	return row{}
}
