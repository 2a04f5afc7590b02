package decode_test

import (
	"bytes"
	"encoding/hex"
	"math"
	"math/rand/v2"
	"strings"
	"testing"

	"shackle/api"
	"shackle/decode"
)

// raw is the bytes that hexadecimal digits tell.
func raw(t *testing.T, s string) []byte {
	t.Helper()
	b, err := hex.DecodeString(strings.ReplaceAll(s, " ", ""))
	if err != nil {
		t.Fatal(err)
	}
	return b
}

func reg(n, width int) api.Operand { return api.Operand{Kind: api.Register, Reg: n, Width: width} }
func num(v int64, width int) api.Operand {
	return api.Operand{Kind: api.Immediate, Imm: v, Width: width}
}

// mem is memory at a register and a number.
func mem(base int, disp int64, width int) api.Operand {
	return api.Operand{Kind: api.Memory, Base: base, Index: -1, Scale: 1, Disp: disp, Width: width}
}

// at is memory at two registers and a number.
func at(base, index, scale int, disp int64, width int) api.Operand {
	return api.Operand{Kind: api.Memory, Base: base, Index: index, Scale: scale, Disp: disp, Width: width}
}

// next is memory relative to the next instruction.
func next(disp int64, width int) api.Operand {
	o := mem(-1, disp, width)
	o.Next = true
	return o
}

func seg(o api.Operand) api.Operand { o.Seg = true; return o }

func inst(op int, l ...api.Operand) api.Inst {
	l = append(l, api.Operand{}, api.Operand{}, api.Operand{})
	return api.Inst{Op: op, A: l[0], B: l[1], C: l[2]}
}

func cond(c int, i api.Inst) api.Inst { i.Cond = c; return i }

// known is bytes, and the instruction that they are.
type known struct {
	b string
	i api.Inst
}

// rows has each row of the table once at least.
func rows() []known {
	l := []known{
		{"48 89 e5", inst(api.OpMov, reg(5, 8), reg(4, 8))},
		{"64 48 8b 04 25 00 00 00 00", inst(api.OpMov, reg(0, 8), seg(mem(-1, 0, 8)))},
		{"48 8b 05 10 00 00 00", inst(api.OpMov, reg(0, 8), next(16, 8))},
		{"ff 25 00 10 00 00", inst(api.OpJmp, next(0x1000, 8))},
		{"f3 0f 1e fa", inst(api.OpNop)}, {"75 fe", cond(5, inst(api.OpJcc, num(-2, 8)))}, {"40 88 e0", inst(api.OpMov, reg(0, 1), reg(4, 1))},
		{"50", inst(api.OpPush, reg(0, 8))}, {"41 57", inst(api.OpPush, reg(15, 8))}, {"4e 5c", inst(api.OpPop, reg(4, 8))}, {"41 58", inst(api.OpPop, reg(8, 8))},
		{"48 63 07", inst(api.OpSign, reg(0, 8), mem(7, 0, 4))}, {"4c 63 c8", inst(api.OpSign, reg(9, 8), reg(0, 4))},
		{"68 ff ff ff 80", inst(api.OpPush, num(-0x7f000001, 8))}, {"6a 80", inst(api.OpPush, num(-128, 8))},
		{"69 c1 00 00 00 80", inst(api.OpImul, reg(0, 4), reg(1, 4), num(math.MinInt32, 4))}, {"4d 6b 08 7f", inst(api.OpImul, reg(9, 8), mem(8, 0, 8), num(127, 8))},
		{"70 00", cond(0, inst(api.OpJcc, num(0, 8)))}, {"7f 7f", cond(15, inst(api.OpJcc, num(127, 8)))},
		{"80 38 81", inst(api.OpCmp, mem(0, 0, 1), num(-127, 1))}, {"81 c9 78 56 34 12", inst(api.OpOr, reg(1, 4), num(0x12345678, 4))}, {"48 83 ec 08", inst(api.OpSub, reg(4, 8), num(8, 8))},
		{"84 db", inst(api.OpTest, reg(3, 1), reg(3, 1))}, {"48 85 10", inst(api.OpTest, mem(0, 0, 8), reg(2, 8))},
		{"88 0a", inst(api.OpMov, mem(2, 0, 1), reg(1, 1))}, {"44 8a c9", inst(api.OpMov, reg(9, 1), reg(1, 1))}, {"8b c9", inst(api.OpMov, reg(1, 4), reg(1, 4))},
		{"8d 40 01", inst(api.OpLea, reg(0, 4), mem(0, 1, 4))}, {"48 8d 3d 00 00 00 80", inst(api.OpLea, reg(7, 8), next(math.MinInt32, 8))},
		{"90", inst(api.OpNop)}, {"4e 90", inst(api.OpNop)}, {"a8 01", inst(api.OpTest, reg(0, 1), num(1, 1))}, {"48 a9 ff ff ff ff", inst(api.OpTest, reg(0, 8), num(-1, 8))},
		{"b3 ff", inst(api.OpMov, reg(3, 1), num(-1, 1))}, {"40 b7 05", inst(api.OpMov, reg(7, 1), num(5, 1))}, {"41 b4 05", inst(api.OpMov, reg(12, 1), num(5, 1))},
		{"b9 ff ff ff ff", inst(api.OpMov, reg(1, 4), num(-1, 4))}, {"49 bf 08 07 06 05 04 03 02 81", inst(api.OpMov, reg(15, 8), num(-0x7efdfcfbfaf9f8f8, 8))},
		{"c1 e0 ff", inst(api.OpShl, reg(0, 4), num(-1, 1))}, {"48 c1 2a 03", inst(api.OpShr, mem(2, 0, 8), num(3, 1))}, {"c1 ff 1f", inst(api.OpSar, reg(7, 4), num(31, 1))},
		{"c3", inst(api.OpRet)}, {"c6 00 80", inst(api.OpMov, mem(0, 0, 1), num(-128, 1))}, {"48 c7 c0 ff ff ff ff", inst(api.OpMov, reg(0, 8), num(-1, 8))}, {"c9", inst(api.OpLeave)},
		{"d1 e1", inst(api.OpShl, reg(1, 4), num(1, 1))}, {"48 d1 f9", inst(api.OpSar, reg(1, 8), num(1, 1))}, {"d3 e8", inst(api.OpShr, reg(0, 4), reg(1, 1))}, {"49 d3 38", inst(api.OpSar, mem(8, 0, 8), reg(1, 1))},
		{"e8 fb ff ff ff", inst(api.OpCall, num(-5, 8))}, {"e9 00 00 00 7f", inst(api.OpJmp, num(0x7f000000, 8))}, {"eb fe", inst(api.OpJmp, num(-2, 8))}, {"f4", inst(api.OpHlt)},
		{"f6 c1 80", inst(api.OpTest, reg(1, 1), num(-128, 1))}, {"48 f7 00 01 00 00 00", inst(api.OpTest, mem(0, 0, 8), num(1, 8))},
		{"f6 d3", inst(api.OpNot, reg(3, 1))}, {"f7 d0", inst(api.OpNot, reg(0, 4))}, {"f6 1a", inst(api.OpNeg, mem(2, 0, 1))}, {"49 f7 d9", inst(api.OpNeg, reg(9, 8))},
		{"ff c0", inst(api.OpInc, reg(0, 4))}, {"48 ff 08", inst(api.OpDec, mem(0, 0, 8))}, {"ff d0", inst(api.OpCall, reg(0, 8))}, {"41 ff 13", inst(api.OpCall, mem(11, 0, 8))},
		{"ff e1", inst(api.OpJmp, reg(1, 8))}, {"ff 35 08 00 00 00", inst(api.OpPush, next(8, 8))}, {"0f 1f 40 00", inst(api.OpNop, mem(0, 0, 4))}, {"48 0f 1f c0", inst(api.OpNop, reg(0, 8))},
		{"0f 44 c1", cond(4, inst(api.OpCmov, reg(0, 4), reg(1, 4)))}, {"4c 0f 4f 08", cond(15, inst(api.OpCmov, reg(9, 8), mem(0, 0, 8)))},
		{"0f 80 00 00 00 80", cond(0, inst(api.OpJcc, num(math.MinInt32, 8)))}, {"0f 8f 01 00 00 00", cond(15, inst(api.OpJcc, num(1, 8)))},
		{"0f 95 c1", cond(5, inst(api.OpSet, reg(1, 1)))}, {"40 0f 9c fe", cond(12, inst(api.OpSet, reg(6, 1)))}, {"0f af c2", inst(api.OpImul, reg(0, 4), reg(2, 4))}, {"48 0f af 02", inst(api.OpImul, reg(0, 8), mem(2, 0, 8))},
		{"0f b6 c1", inst(api.OpZero, reg(0, 4), reg(1, 1))}, {"4c 0f b6 08", inst(api.OpZero, reg(9, 8), mem(0, 0, 1))}, {"48 0f be ce", inst(api.OpSign, reg(1, 8), reg(6, 1))}, {"44 0f be 02", inst(api.OpSign, reg(8, 4), mem(2, 0, 1))},
	}
	for k, op := range map[byte]int{0: api.OpAdd, 1: api.OpOr, 4: api.OpAnd, 5: api.OpSub, 6: api.OpXor, 7: api.OpCmp} {
		code := func(low byte, rest string) string { return hex.EncodeToString([]byte{8*k + low}) + rest }
		l = append(l,
			known{code(0, "ca"), inst(op, reg(2, 1), reg(1, 1))}, known{code(1, "0a"), inst(op, mem(2, 0, 4), reg(1, 4))}, known{"4d" + code(1, "ca"), inst(op, reg(10, 8), reg(9, 8))},
			known{code(2, "0a"), inst(op, reg(1, 1), mem(2, 0, 1))}, known{"48" + code(3, "ca"), inst(op, reg(1, 8), reg(2, 8))},
			known{code(4, "80"), inst(op, reg(0, 1), num(-128, 1))}, known{code(5, "000000ff"), inst(op, reg(0, 4), num(-1<<24, 4))}, known{"48" + code(5, "00000080"), inst(op, reg(0, 8), num(math.MinInt32, 8))},
			known{"80" + hex.EncodeToString([]byte{0xc1 + 8*k}) + "7f", inst(op, reg(1, 1), num(127, 1))},
			known{"81" + hex.EncodeToString([]byte{0xc1 + 8*k}) + "00010000", inst(op, reg(1, 4), num(256, 4))},
			known{"48 83" + hex.EncodeToString([]byte{0xc1 + 8*k}) + "ff", inst(op, reg(1, 8), num(-1, 8))})
	}
	return l
}

// forms has memory operands of all forms; each is that of a mov of 4 bytes into register 0.
func forms() []known {
	mov := func(o api.Operand) api.Inst { return inst(api.OpMov, reg(0, 4), o) }
	return []known{
		{"8b 00", mov(mem(0, 0, 4))}, {"41 8b 07", mov(mem(15, 0, 4))}, {"8b 40 80", mov(mem(0, -128, 4))}, {"8b 87 00 00 00 80", mov(mem(7, math.MinInt32, 4))},
		{"8b 45 00", mov(mem(5, 0, 4))}, {"8b 85 00 00 00 00", mov(mem(5, 0, 4))}, {"41 8b 45 7f", mov(mem(13, 127, 4))},
		{"8b 05 ff ff ff ff", mov(next(-1, 4))}, {"41 8b 05 ff ff ff ff", mov(next(-1, 4))},
		{"8b 04 24", mov(mem(4, 0, 4))}, {"41 8b 04 24", mov(mem(12, 0, 4))}, {"8b 44 24 08", mov(mem(4, 8, 4))}, {"8b 84 e4 00 01 00 00", mov(mem(4, 256, 4))},
		{"8b 04 20", mov(mem(0, 0, 4))}, {"8b 04 c8", mov(at(0, 1, 8, 0, 4))}, {"42 8b 04 61", mov(at(1, 12, 2, 0, 4))}, {"43 8b 44 bd ff", mov(at(13, 15, 4, -1, 4))},
		{"8b 04 25 00 10 00 00", mov(mem(-1, 0x1000, 4))}, {"8b 04 e5 00 10 00 00", mov(mem(-1, 0x1000, 4))}, {"8b 04 cd 00 00 00 80", mov(at(-1, 1, 8, math.MinInt32, 4))}, {"41 8b 04 0d 00 00 00 00", mov(at(-1, 1, 1, 0, 4))},
		{"8b 44 05 00", mov(at(5, 0, 1, 0, 4))}, {"8b 84 05 00 00 00 00", mov(at(5, 0, 1, 0, 4))}, {"64 8b 44 8c 10", mov(seg(at(4, 1, 4, 16, 4)))}, {"64 8b 05 00 00 00 00", mov(seg(next(0, 4)))},
	}
}

func TestDecode(t *testing.T) {
	for _, k := range append(rows(), forms()...) {
		b := raw(t, k.b)
		k.i.Size = len(b)
		for _, behind := range [][]byte{nil, {0}, bytes.Repeat([]byte{0xff}, 20)} {
			if i, err := decode.Decode(append(bytes.Clone(b), behind...)); i != k.i || err != nil {
				t.Errorf("P12.1: %s: %+v, %v, not %+v", k.b, i, err, k.i)
			}
		}
		for n := range b {
			if i, err := decode.Decode(b[:n]); err != api.ErrRange || i != (api.Inst{}) {
				t.Errorf("P12.1: %s, %d bytes: %+v, %v", k.b, n, i, err)
			}
		}
	}
}

func TestDecodeNone(t *testing.T) {
	for _, s := range []string{
		"06", "0e", "07", "10 c0", "18 c0", "16", "26", "27", "2e", "36", "3f", "3e", "65", "66 90", "67", "60", "62", "6c", "6f", // other opcodes
		"63 c0", "40 63 c0", "47 63", "82", "86", "87", "8c", "8e", "8f c0", "91", "98", "9c", "a0", "a4", "aa", "c0 e0 01", "c2", "c4", "c8", "cc", "d0 e0", "d2 e0", "d4", "e0", "e3", "ea", "ec", "f0", "f1", "f2", "f5", "f8", "fa", "fe c0",
		"41 90", "4f 90", "64 90", "0f 05", "0f 0b", "0f 1e", "0f 3f", "0f 50", "0f a2", "0f b7", "0f bf", "0f c8", "0f ff", "0f 0f",
		"80 d0", "81 d8", "83 d1", "80 14", "c1 c0", "c1 c8", "c1 d0", "c1 f0", "d1 f0", "d3 00", "c6 c8", "c7 08", "f6 c8", "f7 e0", "f7 f0", "ff d8", "ff e8", "ff f8", "0f 1f c8", // other digits
		"88 e0", "88 c4", "88 25", "8a 20", "00 e0", "84 e4", "b4", "b7", "80 c4", "c6 c7", "f6 c4", "f6 dc", "0f b6 c4", "0f be e6", "0f 94 c4", "28 e8", // no such registers
		"8d c0", "48 8d ff", // not memory
		"64 c3", "64 50", "64 68", "64 e8", "64 eb", "64 70", "64 b8", "64 a8", "64 04", "64 8d", "64 48 8d", "64 48 89 e5", "64 ff c0", "64 0f 80", "64 0f af c0", "64 64", "64 f3", "64 c9", "64 f4", // the segment without memory
		"40 40", "48 48 89", "40 64", "40 f3", "48 f3 0f 1e fa", "f3 90", "f3 0f 1e fb", "f3 0f 1f", "f3 f3", "f3 48",
	} {
		b := raw(t, s)
		if i, err := decode.Decode(b); err != api.ErrOpcode || i != (api.Inst{}) {
			t.Errorf("P12.1: %s: %+v, %v", s, i, err)
		}
	}
	for _, s := range []string{"", "0f", "64", "40", "4f", "64 4f", "64 0f", "64 40 0f", "88", "64 88", "80", "64 80", "c1", "0f 1f", "64 0f 1f", "48 63", "8d", "b0", "40 b4", "f3", "f3 0f", "f3 0f 1e", "88 04", "48 b8 01 02 03 04 05 06 07"} {
		if i, err := decode.Decode(raw(t, s)); err != api.ErrRange || i != (api.Inst{}) {
			t.Errorf("P12.1: %s: %+v, %v", s, i, err)
		}
	}
}

// TestOpcodes: which bytes begin an instruction, alone, behind an extension, behind 0f.
func TestOpcodes(t *testing.T) {
	in := func(c int, ranges ...int) bool {
		for i := 0; i < len(ranges); i += 2 {
			if c >= ranges[i] && c <= ranges[i+1] {
				return true
			}
		}
		return false
	}
	for c := range 256 {
		reckons := c < 0x40 && c&7 < 6 && in(c>>3, 0, 1, 4, 7)
		always := reckons || in(c, 0x50, 0x5f, 0x68, 0x6b, 0x70, 0x7f, 0x80, 0x81, 0x83, 0x85, 0x88, 0x8b, 0x8d, 0x8d, 0xa8, 0xa9, 0xb0, 0xb3, 0xb8, 0xbf,
			0xc1, 0xc1, 0xc3, 0xc3, 0xc6, 0xc7, 0xc9, 0xc9, 0xd1, 0xd1, 0xd3, 0xd3, 0xe8, 0xe9, 0xeb, 0xeb, 0xf4, 0xf4, 0xf6, 0xf7, 0xff, 0xff, 0x0f, 0x0f)
		second := in(c, 0x1f, 0x1f, 0x40, 0x4f, 0x80, 0x8f, 0x90, 0x9f, 0xaf, 0xaf, 0xb6, 0xb6, 0xbe, 0xbe)
		for _, k := range []struct {
			ahead []byte
			may   bool
		}{
			{nil, always || in(c, 0x40, 0x4f, 0x64, 0x64, 0x90, 0x90, 0xf3, 0xf3)},
			{[]byte{0x40}, always || in(c, 0xb4, 0xb7, 0x90, 0x90)},
			{[]byte{0x41}, always || in(c, 0xb4, 0xb7)},
			{[]byte{0x48}, always || in(c, 0xb4, 0xb7, 0x90, 0x90, 0x63, 0x63)},
			{[]byte{0x0f}, second}, {[]byte{0x4f, 0x0f}, second},
		} {
			if _, err := decode.Decode(append(k.ahead, byte(c))); (err != api.ErrOpcode) != k.may {
				t.Errorf("P12.1: %x%02x: %v", k.ahead, c, err)
			}
		}
	}
	for n := range 16 {
		for b, op := range map[byte]int{0x40: api.OpCmov, 0x80: api.OpJcc, 0x90: api.OpSet} {
			if i, err := decode.Decode([]byte{0x0f, b + byte(n), 0xc0, 0, 0, 0}); i.Op != op || i.Cond != n || err != nil {
				t.Errorf("P12.1: 0f %x: %+v, %v", int(b)+n, i, err)
			}
		}
		if i, err := decode.Decode([]byte{0x70 + byte(n), 5}); i.Op != api.OpJcc || i.Cond != n || err != nil {
			t.Errorf("P12.1: %x: %+v, %v", 0x70+n, i, err)
		}
		r := n & 7
		w := byte(0x40 + n>>3)
		for b, want := range map[byte]api.Inst{0x50: inst(api.OpPush, reg(n, 8)), 0x58: inst(api.OpPop, reg(n, 8)), 0xb0: inst(api.OpMov, reg(n, 1), num(1, 1)), 0xb8: inst(api.OpMov, reg(n, 4), num(1, 4))} {
			i, err := decode.Decode([]byte{w, b + byte(r), 1, 0, 0, 0})
			i.Size = 0
			if i != want || err != nil {
				t.Errorf("P12.1: %x %x: %+v, %v", w, int(b)+r, i, err)
			}
		}
		i, err := decode.Decode([]byte{w | 8, 0xb8 + byte(r), 1, 0, 0, 0, 0, 0, 0, 0})
		if i.Size = 0; i != inst(api.OpMov, reg(n, 8), num(1, 8)) || err != nil {
			t.Errorf("P12.1: %x %x: %+v, %v", w|8, 0xb8+r, i, err)
		}
	}
}

// TestBeginnings: what is the beginning of an instruction can be gone on with; what is none can't; what is one is no beginning of another.
func TestBeginnings(t *testing.T) {
	var starts [][]byte
	for _, s := range []string{"", "64", "40", "48", "41", "44", "64 40", "64 48", "64 4f"} {
		starts = append(starts, raw(t, s), append(raw(t, s), 0x0f))
	}
	var walk func(b []byte, deep int)
	walk = func(b []byte, deep int) {
		i, err := decode.Decode(b)
		goes := false
		for c := range 256 {
			more := append(bytes.Clone(b), byte(c))
			j, err2 := decode.Decode(more)
			goes = goes || err2 != api.ErrOpcode
			if err == nil && (i != j || err2 != nil) || err == api.ErrOpcode && err2 != err {
				t.Fatalf("P12.1: %x: %+v, %v; with %x behind it %+v, %v", b, i, err, c, j, err2)
			}
			if err == api.ErrRange && (deep > 1 || deep > 0 && c%41 == 5) {
				walk(more, deep-1)
			}
		}
		if err == api.ErrRange && !goes {
			t.Fatalf("P12.1: %x can't be gone on with", b)
		}
	}
	for _, b := range starts {
		walk(b, 2)
	}
}

func TestEncode(t *testing.T) {
	for _, k := range append(rows(), forms()...) {
		b, err := decode.Encode(k.i)
		if err != nil || len(b) > len(raw(t, k.b)) {
			t.Errorf("P12.2: %s, %+v: %x, %v", k.b, k.i, b, err)
			continue
		}
		k.i.Size = len(b)
		if i, err := decode.Decode(append(b, 0xcc)); i != k.i || err != nil {
			t.Errorf("P12.4: %s: %x, %+v, %v", k.b, b, i, err)
		}
	}
	for _, k := range []known{
		{"48 83 c0 01", inst(api.OpAdd, reg(0, 8), num(1, 8))}, {"48 05 80 00 00 00", inst(api.OpAdd, reg(0, 8), num(128, 8))}, {"83 c1 80", inst(api.OpAdd, reg(1, 4), num(-128, 4))},
		{"04 05", inst(api.OpAdd, reg(0, 1), num(5, 1))}, {"05 80 00 00 00", inst(api.OpAdd, reg(0, 4), num(128, 4))}, {"83 c0 7f", inst(api.OpAdd, reg(0, 4), num(127, 4))},
		{"01 c8", inst(api.OpAdd, reg(0, 4), reg(1, 4))}, {"89 c8", inst(api.OpMov, reg(0, 4), reg(1, 4))}, {"40 88 f0", inst(api.OpMov, reg(0, 1), reg(6, 1))},
		{"b8 05 00 00 00", inst(api.OpMov, reg(0, 4), num(5, 4))}, {"48 c7 c0 05 00 00 00", inst(api.OpMov, reg(0, 8), num(5, 8))}, {"48 b8 00 00 00 80 00 00 00 00", inst(api.OpMov, reg(0, 8), num(1<<31, 8))},
		{"b0 05", inst(api.OpMov, reg(0, 1), num(5, 1))}, {"d1 e0", inst(api.OpShl, reg(0, 4), num(1, 1))}, {"c1 e0 02", inst(api.OpShl, reg(0, 4), num(2, 1))},
		{"6a 01", inst(api.OpPush, num(1, 8))}, {"68 80 00 00 00", inst(api.OpPush, num(128, 8))}, {"50", inst(api.OpPush, reg(0, 8))}, {"41 50", inst(api.OpPush, reg(8, 8))},
		{"90", inst(api.OpNop)}, {"0f 1f 00", inst(api.OpNop, mem(0, 0, 4))}, {"eb 7f", inst(api.OpJmp, num(127, 8))}, {"e9 80 00 00 00", inst(api.OpJmp, num(128, 8))}, {"e8 01 00 00 00", inst(api.OpCall, num(1, 8))},
		{"74 80", cond(4, inst(api.OpJcc, num(-128, 8)))}, {"0f 84 80 00 00 00", cond(4, inst(api.OpJcc, num(128, 8)))}, {"6b c1 05", inst(api.OpImul, reg(0, 4), reg(1, 4), num(5, 4))}, {"69 c1 80 00 00 00", inst(api.OpImul, reg(0, 4), reg(1, 4), num(128, 4))},
		{"a8 01", inst(api.OpTest, reg(0, 1), num(1, 1))}, {"f6 c1 01", inst(api.OpTest, reg(1, 1), num(1, 1))}, {"0f 94 c0", cond(4, inst(api.OpSet, reg(0, 1)))}, {"40 0f 94 c5", cond(4, inst(api.OpSet, reg(5, 1)))},
		{"8b 00", inst(api.OpMov, reg(0, 4), mem(0, 0, 4))}, {"8b 45 00", inst(api.OpMov, reg(0, 4), mem(5, 0, 4))}, {"8b 04 24", inst(api.OpMov, reg(0, 4), mem(4, 0, 4))}, {"8b 04 25 05 00 00 00", inst(api.OpMov, reg(0, 4), mem(-1, 5, 4))},
		{"8b 40 7f", inst(api.OpMov, reg(0, 4), mem(0, 127, 4))}, {"8b 80 80 00 00 00", inst(api.OpMov, reg(0, 4), mem(0, 128, 4))}, {"8b 44 0d 00", inst(api.OpMov, reg(0, 4), at(5, 1, 1, 0, 4))}, {"42 8b 04 a0", inst(api.OpMov, reg(0, 4), at(0, 12, 4, 0, 4))},
		{"64 48 8b 04 25 00 00 00 00", inst(api.OpMov, reg(0, 8), seg(mem(-1, 0, 8)))}, {"48 63 c1", inst(api.OpSign, reg(0, 8), reg(1, 4))}, {"5f", inst(api.OpPop, reg(7, 8))},
	} {
		k.i.Size = 77 // isn't looked at
		if b, err := decode.Encode(k.i); !bytes.Equal(b, raw(t, k.b)) || err != nil {
			t.Errorf("P12.2: %+v: %x, %v, not %s", k.i, b, err, k.b)
		}
	}
}

func TestEncodeNone(t *testing.T) {
	change := func(i api.Inst, do func(*api.Inst)) api.Inst { do(&i); return i }
	mov := inst(api.OpMov, reg(0, 4), mem(0, 0, 4))
	for what, i := range map[string]api.Inst{
		"nothing": {}, "an op above": inst(api.OpHlt + 1), "an op below": inst(-1), "an op far above": inst(256 + api.OpRet),
		"two of memory": inst(api.OpMov, mem(0, 0, 4), mem(1, 0, 4)), "a number written": inst(api.OpMov, num(1, 4), reg(0, 4)), "a number too many": inst(api.OpRet, num(1, 8)),
		"two widths": inst(api.OpAdd, reg(0, 4), reg(1, 8)), "width 2": inst(api.OpAdd, reg(0, 2), reg(1, 2)), "width 0": inst(api.OpAdd, reg(0, 0), reg(1, 0)), "a shift of a byte": inst(api.OpShl, reg(0, 1), num(1, 1)),
		"register 16": inst(api.OpPush, reg(16, 8)), "register -1": inst(api.OpPush, reg(-1, 8)), "register 256": inst(api.OpMov, reg(256, 4), reg(0, 4)), "push of 4": inst(api.OpPush, reg(0, 4)), "push of 2^31": inst(api.OpPush, num(1<<31, 8)),
		"a number above": inst(api.OpAdd, reg(0, 8), num(1<<31, 8)), "a number of 4 above": inst(api.OpMov, reg(0, 4), num(1<<31, 4)), "a byte above": inst(api.OpMov, reg(0, 1), num(128, 1)), "a byte below": inst(api.OpMov, reg(0, 1), num(-129, 1)),
		"a condition above": cond(16, inst(api.OpJcc, num(0, 8))), "a condition below": cond(-1, inst(api.OpJcc, num(0, 8))), "a condition of none": cond(1, inst(api.OpRet)), "a far jump": inst(api.OpJmp, num(1<<31, 8)), "a jump's width": inst(api.OpJmp, num(0, 4)),
		"shift by rdx": inst(api.OpShl, reg(0, 4), reg(2, 1)), "shift by ecx": inst(api.OpShl, reg(0, 4), reg(1, 4)), "lea of a register": inst(api.OpLea, reg(0, 8), reg(1, 8)), "lea in the segment": inst(api.OpLea, reg(0, 8), seg(mem(0, 0, 8))),
		"test with memory behind": inst(api.OpTest, reg(0, 4), mem(0, 0, 4)), "a nop of a byte": inst(api.OpNop, reg(0, 1)), "a kind above": inst(api.OpPush, api.Operand{Kind: 4, Width: 8}),
		"scale 3": change(mov, func(i *api.Inst) { i.B.Index, i.B.Scale = 1, 3 }), "scale 0": change(mov, func(i *api.Inst) { i.B.Index, i.B.Scale = 1, 0 }), "scale 2 of nothing": change(mov, func(i *api.Inst) { i.B.Scale = 2 }), "scale 256": change(mov, func(i *api.Inst) { i.B.Index, i.B.Scale = 1, 256 }),
		"index 4": change(mov, func(i *api.Inst) { i.B.Index = 4 }), "index -2": change(mov, func(i *api.Inst) { i.B.Index = -2 }), "index 16": change(mov, func(i *api.Inst) { i.B.Index = 16 }), "base 16": change(mov, func(i *api.Inst) { i.B.Base = 16 }), "base -2": change(mov, func(i *api.Inst) { i.B.Base = -2 }),
		"a far place": change(mov, func(i *api.Inst) { i.B.Disp = 1 << 31 }), "next with a base": change(mov, func(i *api.Inst) { i.B.Next = true }), "a register's number": change(mov, func(i *api.Inst) { i.A.Imm = 1 }), "a register's base": change(mov, func(i *api.Inst) { i.A.Base = -1 }), "memory's register": change(mov, func(i *api.Inst) { i.B.Reg = 1 }),
		"a register in the segment": change(mov, func(i *api.Inst) { i.A.Seg = true }), "a third one": change(mov, func(i *api.Inst) { i.C = reg(0, 4) }), "a third one's width": change(mov, func(i *api.Inst) { i.C.Width = 4 }),
		"high byte and wide": inst(api.OpSign, reg(0, 4), reg(0, 4)), "sign of 4 into 4": inst(api.OpSign, reg(0, 4), mem(0, 0, 4)),
	} {
		if b, err := decode.Encode(i); b != nil || err != api.ErrForm {
			t.Errorf("P12.2: %s: %x, %v", what, b, err)
		}
	}
}

// TestFewest: of all instructions of up to three bytes none has fewer bytes, or as many that stand ahead, than Encode tells.
func TestFewest(t *testing.T) {
	first := map[api.Inst][]byte{}
	try := func(b []byte) {
		i, err := decode.Decode(b)
		if err != nil || i.Size != len(b) {
			return
		}
		i.Size = 0
		if first[i] == nil || len(b) < len(first[i]) {
			first[i] = bytes.Clone(b)
		}
	}
	for a := range 256 {
		try([]byte{byte(a)})
		for b := range 256 {
			try([]byte{byte(a), byte(b)})
		}
	}
	for a := range 256 {
		for b := range 256 {
			for c := a % 8; c < 256; c += 8 {
				try([]byte{byte(a), byte(b), byte(c)})
			}
		}
	}
	n := 0
	for i, want := range first {
		if n++; n%16 != 0 && len(want) > 2 {
			continue
		}
		if b, err := decode.Encode(i); err != nil || len(b) > len(want) || len(b) == len(want) && bytes.Compare(b, want) > 0 {
			t.Fatalf("P12.2: %+v: %x, %v, not %x", i, b, err, want)
		}
	}
}

// TestByChance: of bytes by chance, what is decoded is encoded in no more bytes, and decoded again.
func TestByChance(t *testing.T) {
	c := rand.New(rand.NewPCG(5, 6))
	seen := 0
	for seen < 3000 {
		b := make([]byte, 16)
		for i := range b {
			b[i] = byte(c.Uint32())
		}
		at := 0
		if c.IntN(3) == 0 {
			b[at] = 0x64
			at++
		}
		if c.IntN(2) == 0 {
			b[at] = 0x40 + b[at]%16
			at++
		}
		if c.IntN(3) == 0 {
			b[at] = 0x0f
		}
		i, err := decode.Decode(b)
		if err != nil {
			if err != api.ErrOpcode {
				t.Fatalf("P12.1: %x: %v", b, err)
			}
			continue
		}
		seen++
		if i.Size < 1 || i.Size > 14 {
			t.Fatalf("P12.4: %x: %d bytes", b, i.Size)
		}
		got, err := decode.Encode(i)
		if err != nil || len(got) > i.Size || len(got) == i.Size && bytes.Compare(got, b[:i.Size]) > 0 {
			t.Fatalf("P12.4: %x, %+v: %x, %v", b, i, got, err)
		}
		i.Size = len(got)
		if again, err := decode.Decode(got); again != i || err != nil {
			t.Fatalf("P12.4: %x: %+v, not %+v, %v", got, again, i, err)
		}
	}
}

func TestAsm(t *testing.T) {
	push, ret := inst(api.OpPush, reg(5, 8)), inst(api.OpRet)
	if b, err := decode.Asm(push, inst(api.OpMov, reg(5, 8), reg(4, 8)), ret); !bytes.Equal(b, raw(t, "55 4889e5 c3")) || err != nil {
		t.Errorf("P12.3: %x, %v", b, err)
	}
	if b, err := decode.Asm(); len(b) != 0 || err != nil {
		t.Errorf("P12.3: %x, %v", b, err)
	}
	for n := range 3 {
		l := []api.Inst{push, push, push, {}}
		l[n] = api.Inst{Op: 99}
		b, err := decode.Asm(l...)
		if s, ok := err.(*api.Spot); b != nil || !ok || s.At != uint64(n) || s.Err != api.ErrForm {
			t.Errorf("P12.3: %x, %v", b, err)
		}
	}
}
