package exec_test

import (
	"bytes"
	"encoding/hex"
	"math"
	"math/big"
	"strings"
	"testing"

	"shackle/api"
	"shackle/exec"
	"shackle/vmem"
)

// Where the code and the data lie in all tests here; behind each there is nothing.
const (
	code = 0x10000
	data = 0x20000
	most = math.MaxUint64
)

func isSpot(err error, at uint64, c api.Code) bool {
	s, ok := err.(*api.Spot)
	return ok && s.At == at && s.Err == c
}

// machine is a memory whose code is some bytes, told in hexadecimal.
func machine(t *testing.T, digits string) *vmem.Mem {
	t.Helper()
	b, err := hex.DecodeString(strings.ReplaceAll(digits, " ", ""))
	if err != nil {
		t.Fatal(err)
	}
	m, _ := vmem.New(8)
	for _, err := range []error{m.Map(code, 1, api.R|api.X), m.Map(data, 1, api.R|api.W), m.Poke(code, b)} {
		if err != nil {
			t.Fatal(err)
		}
	}
	return m
}

// step does an instruction with registers, and answers them as they are then.
func step(t *testing.T, m *vmem.Mem, r api.Regs) api.Regs {
	t.Helper()
	r.IP = code
	if halt, err := exec.Step(m, &r); halt || err != nil {
		t.Fatalf("P13.2: %v, %v", halt, err)
	}
	return r
}

// one does the instruction of some bytes, which must not touch memory.
func one(t *testing.T, digits string, r api.Regs) api.Regs {
	t.Helper()
	m := machine(t, digits)
	before := m.Clone()
	r = step(t, m, r)
	if at, ok := before.Differ(m); ok {
		t.Errorf("P13.2: %s: memory changed at %x", digits, at)
	}
	return r
}

func TestTest(t *testing.T) {
	for bits := range 32 {
		r := api.Regs{CF: bits&1 != 0, ZF: bits&2 != 0, SF: bits&4 != 0, OF: bits&8 != 0, PF: bits&16 != 0}
		for i, want := range []bool{r.OF, r.CF, r.ZF, r.CF || r.ZF, r.SF, r.PF, r.SF != r.OF, r.ZF || r.SF != r.OF} {
			for _, round := range []int{0, 16, 160, -16, -1600, math.MinInt} {
				if exec.Test(r, round+2*i) != want || exec.Test(r, round+2*i+1) == want {
					t.Errorf("P13.1: condition %d of %+v", round+2*i, r)
				}
			}
		}
	}
}

func TestArguments(t *testing.T) {
	m := machine(t, "90")
	r := api.Regs{IP: code}
	if halt, err := exec.Step(nil, &r); halt || err != api.ErrArg {
		t.Errorf("P13.2: %v, %v", halt, err)
	}
	if halt, err := exec.Step(m, nil); halt || err != api.ErrArg {
		t.Errorf("P13.2: %v, %v", halt, err)
	}
}

func TestFetch(t *testing.T) {
	m := machine(t, "06")
	end := uint64(code + api.Page)
	poke := func(at uint64, b ...byte) {
		if err := m.Poke(at, b); err != nil {
			t.Fatal(err)
		}
	}
	poke(end-3, 0x48, 0xb8, 0x01)
	for _, c := range []struct {
		ip, at uint64
		err    api.Code
	}{
		{code, code, api.ErrOpcode}, {end - 3, end, api.ErrFetch}, {end - 2, end, api.ErrFetch}, {end, end, api.ErrFetch},
		{data, data, api.ErrFetch}, {0, 0, api.ErrFetch}, {most, most, api.ErrFetch},
	} {
		r := api.Regs{IP: c.ip, R: [16]uint64{7}}
		before := r
		if halt, err := exec.Step(m, &r); halt || !isSpot(err, c.at, c.err) || r != before {
			t.Errorf("P13.2: at %x: %v, %+v", c.ip, err, r)
		}
	}
	poke(end-1, 0xc9) // the last byte of all that may be run is an instruction
	r := api.Regs{IP: end - 1, R: [16]uint64{5: data}}
	if _, err := exec.Step(m, &r); err != nil || r.IP != end {
		t.Errorf("P13.2: the last byte: %v, %x", err, r.IP)
	}
	poke(end-1, 0x06)
	if r.IP = end - 1; true {
		if _, err := exec.Step(m, &r); !isSpot(err, end-1, api.ErrOpcode) {
			t.Errorf("P13.2: the last byte: %v", err)
		}
	}
}

func TestHalt(t *testing.T) {
	for digits, size := range map[string]uint64{"f4": 1, "48 f4": 2} {
		r := api.Regs{IP: code, R: [16]uint64{1, 2}}
		if halt, err := exec.Step(machine(t, digits), &r); !halt || err != nil || r != (api.Regs{IP: code + size, R: [16]uint64{1, 2}}) {
			t.Errorf("P13.2: %v, %v, %+v", halt, err, r)
		}
	}
	for _, digits := range []string{"90", "f3 0f 1e fa", "0f 1f 05 00 00 00 00", "48 0f 1f c0"} {
		n := uint64(len(strings.ReplaceAll(digits, " ", "")) / 2)
		if r := one(t, digits, api.Regs{CF: true, R: [16]uint64{9}}); r != (api.Regs{CF: true, R: [16]uint64{9}, IP: code + n}) {
			t.Errorf("P13.2: %s: %+v", digits, r)
		}
	}
}

// TestMove: what is written, and that no flag changes.
func TestMove(t *testing.T) {
	all := api.Regs{CF: true, ZF: true, SF: true, OF: true, PF: true, FS: 0x1234, R: [16]uint64{0x8877665544332211, 0xfedcba98fffffff0, 2, 3, data + 8, 5, 6, 0x80, 8, 9, 10, 11, 12, 13, 14, 15}}
	for _, c := range []struct {
		digits string
		reg    int
		want   uint64
	}{
		{"48 89 e5", 5, data + 8}, {"89 c8", 0, 0xfffffff0}, {"88 c8", 0, 0x88776655443322f0}, {"40 88 fe", 6, 0x80}, {"40 88 f8", 0, 0x8877665544332280},
		{"48 c7 c2 ff ff ff ff", 2, most}, {"c7 c2 ff ff ff ff", 2, 0xffffffff}, {"b3 ff", 3, 0xff}, {"b9 01 00 00 80", 1, 0x80000001}, {"49 b8 01 02 03 04 05 06 07 88", 8, 0x8807060504030201},
		{"48 8d 44 8a 10", 0, 2 + 4*0xfedcba98fffffff0%(1<<64) + 16}, {"8d 44 8a 10", 0, (2 + 4*0xfffffff0 + 16) % (1 << 32)}, {"48 8d 05 fe ff ff ff", 0, code + 5}, {"48 8d 04 25 ff ff ff ff", 0, most},
		{"40 0f b6 c7", 0, 0x80}, {"48 0f be d1", 2, 0xfffffffffffffff0}, {"0f be d1", 2, 0xfffffff0}, {"48 63 d1", 2, 0xfffffffffffffff0}, {"44 0f b6 c9", 9, 0xf0}, {"0f be c0", 0, 0x11},
		{"0f 94 c3", 3, 1}, {"0f 95 c0", 0, 0x8877665544332200}, {"0f 44 c1", 0, 0xfffffff0}, {"0f 45 c1", 0, 0x44332211}, {"48 0f 45 c1", 0, 0x8877665544332211}, {"48 0f 44 c1", 0, 0xfedcba98fffffff0},
	} {
		want := all
		want.R[c.reg] = c.want
		want.IP = code + uint64(len(strings.ReplaceAll(c.digits, " ", ""))/2)
		if r := one(t, c.digits, all); r != want {
			t.Errorf("P13.2: %s: %+v, not %+v", c.digits, r, want)
		}
	}
}

// TestMemory: where memory operands lie, and how many bytes are read and written.
func TestMemory(t *testing.T) {
	bytesOf := []byte{0x10, 0x21, 0x32, 0x43, 0x54, 0x65, 0x76, 0x87, 0x98}
	regs := api.Regs{FS: data - 0x100, R: [16]uint64{0xaabbccddeeff0011, 4, data - 8, data, 0, data + 0x80, most, 0x100}}
	for _, c := range []struct {
		digits string
		want   uint64
	}{
		{"48 8b 03", 0x8776655443322110}, {"8b 03", 0x43322110}, {"8a 03", 0xaabbccddeeff0010}, {"8a 43 08", 0xaabbccddeeff0098},
		{"8b 45 80", 0x43322110}, {"8b 83 00 00 00 00", 0x43322110}, {"8b 04 0b", 0x87766554}, {"8b 44 4a 01", 0x54433221}, {"8b 44 8a f9", 0x54433221}, {"8b 44 73 03", 0x54433221},
		{"64 8b 07", 0x43322110}, {"64 8b 04 25 01 01 00 00", 0x54433221}, {"64 8b 04 cd e0 00 00 00", 0x43322110}, {"8b 05 fa ff 00 00", 0x43322110}, {"64 8b 05 f9 00 ff ff", 0x43322110},
		{"0f b6 43 07", 0x87}, {"48 0f be 43 07", 0xffffffffffffff87}, {"48 63 43 04", 0xffffffff87766554}, {"48 0f 4b 03", 0x8776655443322110}, {"0f 4a 03", 0xeeff0011},
	} {
		m := machine(t, c.digits)
		if err := m.Poke(data, bytesOf); err != nil {
			t.Fatal(err)
		}
		if r := step(t, m, regs); r.R[0] != c.want {
			t.Errorf("P13.2: %s: %x, not %x", c.digits, r.R[0], c.want)
		}
	}
	for _, c := range []struct{ digits, want string }{
		{"48 89 03", "1100ffeeddccbbaa98"}, {"89 03", "1100ffee5465768798"}, {"88 03", "112132435465768798"}, {"c6 43 02 80", "102180435465768798"}, {"c7 43 02 fe ff ff ff", "1021feffffff768798"},
		{"48 c7 03 fe ff ff ff", "feffffffffffffff98"}, {"0f 9b 43 01", "100132435465768798"}, {"0f 9a 43 01", "100032435465768798"}, {"83 03 01", "112132435465768798"}, {"f6 53 01", "10de32435465768798"}, {"48 ff 0b", "0f2132435465768798"}, {"c1 23 04", "001122335465768798"},
	} {
		m := machine(t, c.digits)
		if err := m.Poke(data, bytesOf); err != nil {
			t.Fatal(err)
		}
		step(t, m, regs)
		if b, _ := m.Peek(data, 9); hex.EncodeToString(b) != c.want {
			t.Errorf("P13.2: %s: %x, not %s", c.digits, b, c.want)
		}
	}
}

// TestRegisterZero: register 0 is one, as a base and as an index.
func TestRegisterZero(t *testing.T) {
	for digits, r := range map[string]api.Regs{
		"48 8b 18":                {R: [16]uint64{0: data}},
		"48 8b 1c 01":             {R: [16]uint64{0: data - 0x10, 1: 0x10}},
		"48 8b 1c 08":             {R: [16]uint64{0: data - 0x10, 1: 0x10}},
		"48 8b 1c 85 00 00 00 00": {R: [16]uint64{0: data / 4}},
	} {
		m := machine(t, digits)
		if err := m.Poke(data, []byte{7, 8}); err != nil {
			t.Fatal(err)
		}
		if got := step(t, m, r); got.R[3] != 0x0807 {
			t.Errorf("P13.2: %s: %x", digits, got.R[3])
		}
	}
}

// TestBarred: memory that may not be read or written, with nothing changed.
func TestBarred(t *testing.T) {
	end := uint64(data + api.Page)
	for _, c := range []struct {
		digits string
		at     uint64
		err    api.Code
	}{
		{"48 8b 03", end, api.ErrRead}, {"48 89 03", end, api.ErrWrite}, {"48 01 03", end, api.ErrRead}, {"48 8b 02", code + api.Page, api.ErrRead}, {"89 02", code + 4092, api.ErrWrite}, {"83 02 01", code + 4092, api.ErrWrite},
		{"38 01", 0, api.ErrRead}, {"02 01", 0, api.ErrRead}, {"0a 01", 0, api.ErrRead}, {"3b 01", 0, api.ErrRead}, {"0f be 01", 0, api.ErrRead}, {"84 01", 0, api.ErrRead}, {"88 01", 0, api.ErrWrite}, {"c6 01 05", 0, api.ErrWrite}, {"0f 95 01", 0, api.ErrWrite}, {"0f 94 01", 0, api.ErrWrite}, {"0f 44 01", 0, api.ErrRead}, {"0f 45 01", 0, api.ErrRead},
		{"ff 01", 0, api.ErrRead}, {"f7 19", 0, api.ErrRead}, {"f7 11", 0, api.ErrRead}, {"d1 21", 0, api.ErrRead}, {"d3 22", code + 4092, api.ErrWrite}, {"0f af 01", 0, api.ErrRead}, {"6b c1 05", 0, 0}, {"6b 01 05", 0, api.ErrRead},
		{"50", data - 8, api.ErrWrite}, {"ff 31", 0, api.ErrRead}, {"ff 33", end, api.ErrRead}, {"5c", 0, 0}, {"5b", 0, 0}, {"e8 00 00 00 00", data - 8, api.ErrWrite}, {"ff 11", 0, api.ErrRead}, {"ff 12", code + api.Page, api.ErrRead}, {"ff d0", data - 8, api.ErrWrite}, {"ff 21", 0, api.ErrRead},
		{"c9", 0x5000, api.ErrRead}, {"c3", 0, 0}, {"0f 1f 01", 0, 0}, {"8d 01", 0, 0}, {"64 8b 04 25 00 00 00 00", 0x7000, api.ErrRead}, {"8b 05 00 00 00 80", 1<<64 + code + 6 - 1<<31, api.ErrRead},
	} {
		m := machine(t, c.digits)
		before := m.Clone()
		r := api.Regs{IP: code, FS: 0x7000, CF: true, R: [16]uint64{1, 0, code + 4092, end - 4, data, 0x5000}}
		was := r
		_, err := exec.Step(m, &r)
		if c.err == 0 {
			if err != nil {
				t.Errorf("P13.2: %s: %v", c.digits, err)
			}
			continue
		}
		at, changed := before.Differ(m)
		if !isSpot(err, c.at, c.err) || r != was || changed {
			t.Errorf("P13.2: %s: %v, %+v, memory at %x %v", c.digits, err, r, at, changed)
		}
	}
	m := machine(t, "5b")
	r := api.Regs{IP: code, R: [16]uint64{4: end - 7}}
	if _, err := exec.Step(m, &r); !isSpot(err, end, api.ErrRead) || r.R[4] != end-7 {
		t.Errorf("P13.2: pop: %v, %+v", err, r)
	}
	m = machine(t, "c3")
	if _, err := exec.Step(m, &r); !isSpot(err, end, api.ErrRead) || r.IP != code {
		t.Errorf("P13.2: ret: %v, %+v", err, r)
	}
}

// TestStack: what goes onto the stack and comes from it.
func TestStack(t *testing.T) {
	sp := uint64(data + 0x100)
	at := func(m *vmem.Mem, addr uint64) uint64 {
		b, err := m.Peek(addr, 8)
		if err != nil {
			t.Fatal(err)
		}
		v := uint64(0)
		for i := range 8 {
			v |= uint64(b[i]) << (8 * i)
		}
		return v
	}
	for _, c := range []struct {
		digits     string
		pushed, ip uint64
	}{
		{"50", 0x8000000000000001, code + 1}, {"54", sp, code + 1}, {"6a ff", most, code + 2}, {"68 00 00 00 80", 1<<64 - 1<<31, code + 5}, {"ff 74 24 08", 0x2222, code + 4}, {"ff 34 24", 0x1111, code + 3},
		{"e8 10 00 00 00", code + 5, code + 0x15}, {"e8 f0 ff ff ff", code + 5, code - 11}, {"ff d0", code + 2, 0x8000000000000001}, {"ff 54 24 08", code + 4, 0x2222}, {"ff d4", code + 2, sp}, {"41 ff d7", code + 3, 15},
	} {
		m := machine(t, c.digits)
		m.Poke(sp, []byte{0x11, 0x11, 0, 0, 0, 0, 0, 0, 0x22, 0x22})
		r := step(t, m, api.Regs{R: [16]uint64{0x8000000000000001, 4: sp, 15: 15}, ZF: true})
		if at(m, sp-8) != c.pushed || r.IP != c.ip || r.R[4] != sp-8 || !r.ZF || at(m, sp) != 0x1111 {
			t.Errorf("P13.2: %s: pushed %x, %+v", c.digits, at(m, sp-8), r)
		}
	}
	for _, c := range []struct {
		digits string
		want   api.Regs
	}{
		{"5b", api.Regs{IP: code + 1, R: [16]uint64{3: 0x1111, 4: sp + 8, 5: sp + 8}}}, {"5c", api.Regs{IP: code + 1, R: [16]uint64{4: 0x1111, 5: sp + 8}}}, {"41 5f", api.Regs{IP: code + 2, R: [16]uint64{4: sp + 8, 5: sp + 8, 15: 0x1111}}},
		{"c3", api.Regs{IP: 0x1111, R: [16]uint64{4: sp + 8, 5: sp + 8}}}, {"c9", api.Regs{IP: code + 1, R: [16]uint64{4: sp + 16, 5: 0x2222}}},
	} {
		m := machine(t, c.digits)
		m.Poke(sp, []byte{0x11, 0x11, 0, 0, 0, 0, 0, 0, 0x22, 0x22})
		if r := step(t, m, api.Regs{R: [16]uint64{4: sp, 5: sp + 8}}); r != c.want {
			t.Errorf("P13.2: %s: %+v, not %+v", c.digits, r, c.want)
		}
	}
}

func TestJump(t *testing.T) {
	for _, c := range []struct {
		digits string
		ip     uint64
	}{
		{"eb fe", code}, {"eb 7f", code + 0x81}, {"e9 00 00 00 80", 1<<64 + code + 5 - 1<<31}, {"ff e0", 0x8000000000000001}, {"ff 23", 0x1111}, {"ff 25 fa ff 00 00", 0x1111},
		{"74 10", code + 0x12}, {"75 10", code + 2}, {"0f 84 00 01 00 00", code + 0x106}, {"0f 85 00 01 00 00", code + 6}, {"72 fe", code + 2}, {"73 fe", code},
	} {
		m := machine(t, c.digits)
		m.Poke(data, []byte{0x11, 0x11})
		want := api.Regs{IP: c.ip, ZF: true, R: [16]uint64{0x8000000000000001, 3: data}}
		if r := step(t, m, api.Regs{ZF: true, R: want.R}); r != want {
			t.Errorf("P13.2: %s: %+v", c.digits, r)
		}
	}
	for cond := range 16 {
		for bits := range 32 {
			r := api.Regs{CF: bits&1 != 0, ZF: bits&2 != 0, SF: bits&4 != 0, OF: bits&8 != 0, PF: bits&16 != 0}
			holds := exec.Test(r, cond)
			got := one(t, hex.EncodeToString([]byte{0x70 + byte(cond), 0x20}), r)
			set := one(t, hex.EncodeToString([]byte{0x0f, 0x90 + byte(cond), 0xc0}), r)
			if got.IP == code+0x22 != holds || set.R[0] == 1 != holds {
				t.Errorf("P13.2: condition %d of %+v: %x, %x", cond, r, got.IP, set.R[0])
			}
		}
	}
}

// values are numbers at the edges of all widths.
func values() []uint64 {
	l := []uint64{0, 1, 2, 3, 0x7f, 0x80, 0x81, 0xff, 0x100, 0x55, 0x7fffffff, 0x80000000, 0x80000001, 0xffffffff, 1 << 32, 1<<63 - 1, 1 << 63, 1<<63 + 1, most - 1, most, 0x123456789abcdef0}
	return l
}

// low is a number's lowest w bytes; signed is that with its sign.
func low(v uint64, w int) *big.Int {
	m := new(big.Int).Lsh(big.NewInt(1), uint(8*w))
	return new(big.Int).Mod(new(big.Int).SetUint64(v), m)
}

func signed(v *big.Int, w int) *big.Int {
	m := new(big.Int).Lsh(big.NewInt(1), uint(8*w))
	r := new(big.Int).Mod(v, m)
	if r.Bit(8*w-1) == 1 {
		r.Sub(r, m)
	}
	return r
}

// outcome is a result of w bytes with the three flags of it.
func outcome(v *big.Int, w int, r api.Regs) (uint64, api.Regs) {
	m := new(big.Int).Lsh(big.NewInt(1), uint(8*w))
	v = new(big.Int).Mod(v, m)
	r.ZF, r.SF = v.Sign() == 0, v.Bit(8*w-1) == 1
	ones := 0
	for i := range 8 {
		ones += int(v.Bit(i))
	}
	r.PF = ones%2 == 0
	return v.Uint64(), r
}

// merged is a register behind a write of w bytes.
func merged(old, v uint64, w int) uint64 {
	if w == 1 {
		return old&^0xff | v
	}
	return v
}

// form is the bytes of an opcode (its lowest bit the width's) with registers 0 (A) and 1 (B).
func form(op byte, w int, rest ...byte) string {
	var b []byte
	if w == 8 {
		b = append(b, 0x48)
	}
	if w != 1 {
		op |= 1
	}
	return hex.EncodeToString(append(append(b, op), rest...))
}

// TestReckon: of all widths and many values what is written, and every flag, reckoned with numbers of any size.
func TestReckon(t *testing.T) {
	for _, w := range []int{1, 4, 8} {
		for _, a := range values() {
			for _, b := range values() {
				for _, flags := range []api.Regs{{}, {CF: true, ZF: true, SF: true, OF: true, PF: true}} {
					reckonTwo(t, w, a, b, flags)
				}
			}
			for _, flags := range []api.Regs{{}, {CF: true, ZF: true, SF: true, OF: true, PF: true}} {
				reckonOne(t, w, a, flags)
			}
		}
	}
}

// expect holds the registers behind an instruction against those that must be.
func expect(t *testing.T, what, digits string, a, b uint64, flags, want api.Regs) {
	t.Helper()
	flags.R[0], flags.R[1] = a, b
	want.R[1] = b
	got := one(t, digits, flags)
	if got.IP = 0; got != want {
		t.Errorf("P13.2: %s %s of %x, %x: %+v, not %+v", what, digits, a, b, got, want)
	}
}

func reckonTwo(t *testing.T, w int, a, b uint64, flags api.Regs) {
	x, y := low(a, w), low(b, w)
	for k, what := range map[byte]string{0: "add", 5: "sub", 7: "cmp", 1: "or", 4: "and", 6: "xor"} {
		var v *big.Int
		want := flags
		switch what {
		case "add":
			v = new(big.Int).Add(x, y)
			want.CF = v.BitLen() > 8*w
			want.OF = signed(v, w).Cmp(new(big.Int).Add(signed(x, w), signed(y, w))) != 0
		case "sub", "cmp":
			v = new(big.Int).Sub(x, y)
			want.CF = x.Cmp(y) < 0
			want.OF = signed(v, w).Cmp(new(big.Int).Sub(signed(x, w), signed(y, w))) != 0
		default:
			v = map[string]*big.Int{"or": new(big.Int).Or(x, y), "and": new(big.Int).And(x, y), "xor": new(big.Int).Xor(x, y)}[what]
			want.CF, want.OF = false, false
		}
		n, want := outcome(v, w, want)
		want.R[0] = merged(a, n, w)
		if what == "cmp" {
			want.R[0] = a
		}
		expect(t, what, form(8*k, w, 0xc8), a, b, flags, want)
		if what == "and" {
			want.R[0] = a
			expect(t, "test", form(0x84, w, 0xc8), a, b, flags, want)
		}
	}
	if w > 1 {
		whole := new(big.Int).Mul(signed(x, w), signed(y, w))
		want := flags
		want.CF = signed(whole, w).Cmp(whole) != 0
		want.OF = want.CF
		want.R[0] = new(big.Int).Mod(whole, new(big.Int).Lsh(big.NewInt(1), uint(8*w))).Uint64()
		expect(t, "imul", map[int]string{4: "0fafc1", 8: "480fafc1"}[w], a, b, flags, want)
	}
}

func reckonOne(t *testing.T, w int, a uint64, flags api.Regs) {
	x := low(a, w)
	one := big.NewInt(1)
	for what, c := range map[string]struct {
		op, rest byte
		v        *big.Int
		exact    *big.Int
	}{
		"not": {0xf6, 0xd0, new(big.Int).Not(x), nil},
		"neg": {0xf6, 0xd8, new(big.Int).Neg(x), new(big.Int).Neg(signed(x, w))},
		"inc": {0xfe, 0xc0, new(big.Int).Add(x, one), new(big.Int).Add(signed(x, w), one)},
		"dec": {0xfe, 0xc8, new(big.Int).Sub(x, one), new(big.Int).Sub(signed(x, w), one)},
	} {
		if w == 1 && c.op == 0xfe {
			continue
		}
		want := flags
		n, three := outcome(c.v, w, flags)
		if c.exact != nil {
			want = three
			want.OF = signed(c.v, w).Cmp(c.exact) != 0
		}
		if what == "neg" {
			want.CF = x.Sign() != 0
		}
		want.R[0] = merged(a, n, w)
		expect(t, what, form(c.op, w, c.rest), a, 0, flags, want)
	}
}

// TestMultiplyThree: the product of B and C, a number or memory.
func TestMultiplyThree(t *testing.T) {
	r := one(t, "48 6b c1 fe", api.Regs{R: [16]uint64{99, 5}, ZF: true, SF: true, PF: true})
	if r.R[0] != most-9 || r.CF || r.OF || !r.ZF || !r.SF || !r.PF {
		t.Errorf("P13.2: %+v", r)
	}
	if r := one(t, "69 c1 00 00 00 80", api.Regs{R: [16]uint64{99, 2}}); r.R[0] != 0 || !r.CF || !r.OF || r.ZF {
		t.Errorf("P13.2: %+v", r)
	}
}

// TestShift: all counts, by the number and by register 1, of both widths.
func TestShift(t *testing.T) {
	for digit, what := range map[byte]string{4: "shl", 5: "shr", 7: "sar"} {
		for _, w := range []int{4, 8} {
			for _, a := range values() {
				for _, flags := range []api.Regs{{}, {CF: true, ZF: true, SF: true, OF: true, PF: true}} {
					for _, by := range []uint64{0, 1, 2, 7, 31, 32, 33, 63, 64, 65, 0x81, 0xff, 0x1ff01} {
						want := shifted(what, w, a, by&0xff, flags)
						number := form(0xc0, w, 0xc0|digit<<3, byte(by))
						register := form(0xd2, w, 0xc0|digit<<3)
						expect(t, what, number, a, by, flags, want)
						expect(t, what, register, a, by, flags, want)
						if by == 1 {
							expect(t, what, form(0xd0, w, 0xc0|digit<<3), a, by, flags, want)
						}
					}
				}
			}
		}
	}
}

// shifted is the registers behind a shift.
func shifted(what string, w int, a, by uint64, flags api.Regs) api.Regs {
	count := uint(by % 32)
	if w == 8 {
		count = uint(by % 64)
	}
	x := low(a, w)
	want := flags
	want.R[0] = x.Uint64()
	if count == 0 {
		return want
	}
	var v *big.Int
	var out uint
	switch what {
	case "shl":
		v, out = new(big.Int).Lsh(x, count), x.Bit(8*w-int(count))
	case "shr":
		v, out = new(big.Int).Rsh(x, count), x.Bit(int(count)-1)
	case "sar":
		v, out = new(big.Int).Rsh(signed(x, w), count), x.Bit(int(count)-1)
	}
	n, want := outcome(v, w, want)
	want.R[0], want.CF = n, out == 1
	if count == 1 {
		want.OF = what == "shl" && want.SF != want.CF || what == "shr" && x.Bit(8*w-1) == 1
	}
	return want
}

// TestExamples: the chapter's.
func TestExamples(t *testing.T) {
	for _, carry := range []bool{false, true} {
		if r := one(t, "48 ff c0", api.Regs{R: [16]uint64{most}, CF: carry}); r.R[0] != 0 || !r.ZF || !r.PF || r.CF != carry || r.SF || r.OF {
			t.Errorf("P13.2: %+v", r)
		}
	}
}

// TestAlone: what a step does hangs on registers, the instruction and what it reads alone; it writes at most 8 bytes.
func TestAlone(t *testing.T) {
	for _, digits := range []string{"50", "48 89 03", "c7 03 01 02 03 04", "e8 00 00 00 00", "48 f7 1b", "88 03", "5b", "c9", "48 03 03"} {
		a, b := machine(t, digits+"90 90 90"), machine(t, digits+"f4 06 cc")
		b.Poke(data+0x200, bytes.Repeat([]byte{0x77}, 0x200))
		before := a.Clone()
		regs := api.Regs{R: [16]uint64{1, 2, 3, data + 0x100, data + 0x100, data + 0x108}}
		if x, y := step(t, a, regs), step(t, b, regs); x != y {
			t.Errorf("P13.3: %s: %+v, %+v", digits, x, y)
		}
		was, _ := before.Peek(data, api.Page)
		now, _ := a.Peek(data, api.Page)
		also, _ := b.Peek(data, 0x200)
		n := 0
		for i := range now {
			if was[i] != now[i] {
				n++
			}
		}
		if n > 8 || !bytes.Equal(now[:0x200], also) {
			t.Errorf("P13.3: %s: %d bytes written", digits, n)
		}
	}
}
