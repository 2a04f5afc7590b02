package reloc_test

import (
	"bytes"
	"math"
	"testing"

	"shackle/api"
	"shackle/reloc"
	"shackle/vmem"
)

const (
	most = math.MaxUint64
	base = 0x20000000
)

func TestValue(t *testing.T) {
	all := api.Bound{Addr: 0x123456789, Size: 0x1000, Module: 7, Offset: 0x40, Static: true, Below: 0x100}
	for _, c := range []struct {
		what string
		r    api.Rel
		base uint64
		b    api.Bound
		want uint64
		n    int
		err  error
	}{
		{"the example", api.Rel{Type: 1, Add: -1}, 0, api.Bound{Addr: 0x1000}, 0xfff, 8, nil}, {"the example", api.Rel{Type: 2, Off: 0x10}, 0x2000, api.Bound{Addr: 0x1000}, 0xffffeff0, 4, nil},
		{"the example", api.Rel{Type: 8, Add: 5}, 0x2000, api.Bound{}, 0x2005, 8, nil}, {"the example", api.Rel{Type: 18}, 0, api.Bound{Offset: 4, Below: 16}, most - 11, 8, nil}, {"the example", api.Rel{Type: 99}, 0, all, 0, 0, api.ErrReloc},
		{"0", api.Rel{Type: 0, Add: 9}, 1, all, 0, 0, nil}, {"1 wraps", api.Rel{Type: 1, Add: 2}, 0, api.Bound{Addr: most}, 1, 8, nil}, {"6", api.Rel{Type: 6, Add: 9}, 5, all, 0x123456789, 8, nil}, {"7", api.Rel{Type: 7, Add: 9}, 5, all, 0x123456789, 8, nil},
		{"8 wraps", api.Rel{Type: 8, Add: -6}, 5, all, most, 8, nil}, {"37", api.Rel{Type: 37, Add: 1}, 5, all, 6, 8, nil}, {"16", api.Rel{Type: 16, Add: 9}, 5, all, 7, 8, nil}, {"17", api.Rel{Type: 17, Add: -1}, 5, all, 0x3f, 8, nil},
		{"18", api.Rel{Type: 18, Add: 2}, 5, all, most - 0xbd, 8, nil}, {"18 of none", api.Rel{Type: 18, Add: 2}, 5, api.Bound{Offset: 1}, 3, 8, nil}, {"18 of a later one", api.Rel{Type: 18}, 0, api.Bound{Module: 1, Offset: 1}, 0, 0, api.ErrTLS}, {"24", api.Rel{Type: 24, Off: 4, Add: 1}, 0x100, api.Bound{Addr: 0x10}, most - 0xf2, 8, nil},
		{"33", api.Rel{Type: 33, Add: -1}, 5, all, 0xfff, 8, nil}, {"33 wraps", api.Rel{Type: 33, Add: -1}, 5, api.Bound{}, most, 8, nil},
		{"2, the most", api.Rel{Type: 2, Off: 1}, 1, api.Bound{Addr: 1<<31 + 1}, 1<<31 - 1, 4, nil}, {"2, too much", api.Rel{Type: 2, Off: 1}, 1, api.Bound{Addr: 1<<31 + 2}, 0, 0, api.ErrReloc},
		{"2, the least", api.Rel{Type: 2, Off: 1 << 31, Add: 1}, 1, api.Bound{}, 1 << 31, 4, nil}, {"2, too little", api.Rel{Type: 2, Off: 1 << 31}, 1, api.Bound{}, 0, 0, api.ErrReloc}, {"2, wrapped", api.Rel{Type: 2, Off: 8}, most, api.Bound{Addr: 0x10}, 9, 4, nil},
		{"10, the most", api.Rel{Type: 10, Add: 1}, 9, api.Bound{Addr: 1<<32 - 2}, 1<<32 - 1, 4, nil}, {"10, too much", api.Rel{Type: 10, Add: 1}, 9, api.Bound{Addr: 1<<32 - 1}, 0, 0, api.ErrReloc}, {"10, below 0", api.Rel{Type: 10, Add: -1}, 9, api.Bound{}, 0, 0, api.ErrReloc},
		{"11, the most", api.Rel{Type: 11}, 9, api.Bound{Addr: 1<<31 - 1}, 1<<31 - 1, 4, nil}, {"11, too much", api.Rel{Type: 11}, 9, api.Bound{Addr: 1 << 31}, 0, 0, api.ErrReloc}, {"11, the least", api.Rel{Type: 11, Add: math.MinInt32}, 9, api.Bound{}, 1 << 31, 4, nil}, {"11, too little", api.Rel{Type: 11, Add: math.MinInt32}, 9, api.Bound{Addr: most}, 0, 0, api.ErrReloc}, {"11, -1", api.Rel{Type: 11, Add: -1}, 9, api.Bound{}, 1<<32 - 1, 4, nil},
		{"32, the most", api.Rel{Type: 32, Add: -1}, 9, api.Bound{Size: 1 << 32, Addr: most}, 1<<32 - 1, 4, nil}, {"32, too much", api.Rel{Type: 32}, 9, api.Bound{Size: 1 << 32}, 0, 0, api.ErrReloc}, {"32, below 0", api.Rel{Type: 32, Add: -1}, 9, api.Bound{}, 0, 0, api.ErrReloc},
	} {
		if v, n, err := reloc.Value(c.r, c.base, c.b); v != c.want || n != c.n || err != c.err {
			t.Errorf("P19.1: %s: %x, %d, %v, not %x, %d, %v", c.what, v, n, err, c.want, c.n, c.err)
		}
	}
	told := map[int]int{0: 0, 1: 8, 2: 4, 6: 8, 7: 8, 8: 8, 10: 4, 11: 4, 16: 8, 17: 8, 18: 8, 24: 8, 32: 4, 33: 8, 37: 8}
	for kind := -2; kind < 70; kind++ {
		v, n, err := reloc.Value(api.Rel{Type: kind}, 0, api.Bound{})
		if want, ok := told[kind]; ok && (n != want || err != nil) || !ok && (v != 0 || n != 0 || err != api.ErrReloc) {
			t.Errorf("P19.1: type %d: %x, %d, %v", kind, v, n, err)
		}
	}
}

// object has a segment that may be read, of 1000 to 1fff, and one that may be written, of 3000 to 4007.
func object() api.Object {
	return api.Object{Head: api.Head{Progs: []api.Prog{
		{Type: api.PtTLS, Vaddr: 0, Memsz: 0x10000, Flags: api.W},
		{Type: api.PtLoad, Vaddr: 0x1000, Filesz: 5, Memsz: 0x1000, Flags: api.R | api.X},
		{Type: api.PtLoad, Vaddr: 0x3000, Filesz: 5, Memsz: 0x1008, Flags: api.R | api.W}}}}
}

// memory is a memory in which its pages are, without permissions, all their bytes 1.
func memory(t *testing.T) *vmem.Mem {
	t.Helper()
	m, err := vmem.New(9)
	if err != nil {
		t.Fatal(err)
	}
	if err := m.Map(base, 5, 0); err != nil {
		t.Fatal(err)
	}
	if err := m.Poke(base, bytes.Repeat([]byte{1}, 5*api.Page)); err != nil {
		t.Fatal(err)
	}
	return m
}

// changed is the bytes at a place, when all others are as they were.
func changed(t *testing.T, m *vmem.Mem, at uint64, n int) []byte {
	t.Helper()
	b, err := m.Peek(base, 5*api.Page)
	if err != nil {
		t.Fatal(err)
	}
	part := bytes.Clone(b[at : at+uint64(n)])
	copy(b[at:], bytes.Repeat([]byte{1}, n))
	if !bytes.Equal(b, bytes.Repeat([]byte{1}, len(b))) {
		t.Error("P19.4: other bytes were written")
	}
	return part
}

func TestApply(t *testing.T) {
	b := api.Bound{Addr: 0x1122334455667788, Size: 0x99}
	textrel := object()
	textrel.Dyn.Textrel = true
	for _, c := range []struct {
		what string
		o    api.Object
		r    api.Rel
		want []byte
	}{
		{"8 bytes", object(), api.Rel{Type: 1, Off: 0x3000}, []byte{0x88, 0x77, 0x66, 0x55, 0x44, 0x33, 0x22, 0x11}},
		{"over two pages", object(), api.Rel{Type: 6, Off: 0x3ffd}, []byte{0x88, 0x77, 0x66, 0x55, 0x44, 0x33, 0x22, 0x11}},
		{"the last bytes", object(), api.Rel{Type: 33, Off: 0x4000}, []byte{0x99, 0, 0, 0, 0, 0, 0, 0}},
		{"the last 4 bytes", object(), api.Rel{Type: 32, Off: 0x4004}, []byte{0x99, 0, 0, 0}},
		{"nothing", object(), api.Rel{Type: 0, Off: most}, nil},
		{"in text", textrel, api.Rel{Type: 32, Off: 0x1ffc}, []byte{0x99, 0, 0, 0}},
	} {
		m := memory(t)
		if err := reloc.Apply(m, c.o, base, c.r, b); err != nil {
			t.Errorf("P19.2: %s: %v", c.what, err)
		}
		at := min(c.r.Off, 0x100)
		if len(c.want) > 0 {
			at = c.r.Off
		}
		if got := changed(t, m, at, len(c.want)); !bytes.Equal(got, c.want) {
			t.Errorf("P19.2: %s: %x", c.what, got)
		}
	}
}

func TestApplyAmiss(t *testing.T) {
	textrel := object()
	textrel.Dyn.Textrel = true
	two := api.Object{Head: api.Head{Progs: []api.Prog{{Type: api.PtLoad, Vaddr: 0x1000, Memsz: 0x1000, Flags: api.W}, {Type: api.PtLoad, Vaddr: 0x2000, Memsz: 0x1000, Flags: api.W}}}}
	high := api.Object{Head: api.Head{Progs: []api.Prog{{Type: api.PtLoad, Vaddr: 0x4000, Memsz: 0x2000, Flags: api.W}, {Type: api.PtLoad, Vaddr: most - 15, Memsz: 16, Flags: api.W}}}}
	for _, c := range []struct {
		what string
		o    api.Object
		r    api.Rel
		b    api.Bound
		err  error
	}{
		{"a type", object(), api.Rel{Type: 3, Off: 0x3000}, api.Bound{}, api.ErrReloc}, {"TLS", object(), api.Rel{Type: 18, Off: 9}, api.Bound{Module: 1}, api.ErrTLS}, {"no room", object(), api.Rel{Type: 10, Off: 0x3000}, api.Bound{Addr: most}, api.ErrReloc},
		{"text", object(), api.Rel{Type: 1, Off: 0x1000}, api.Bound{}, api.ErrReloc}, {"no segment", textrel, api.Rel{Type: 1, Off: 0x2000}, api.Bound{}, api.ErrReloc}, {"behind", object(), api.Rel{Type: 1, Off: 0x4001}, api.Bound{}, api.ErrReloc}, {"4 bytes behind", object(), api.Rel{Type: 32, Off: 0x4005}, api.Bound{}, api.ErrReloc},
		{"ahead", object(), api.Rel{Type: 1, Off: 0x2fff}, api.Bound{}, api.ErrReloc}, {"over two segments", two, api.Rel{Type: 1, Off: 0x1ffc}, api.Bound{}, api.ErrReloc}, {"far", object(), api.Rel{Type: 1, Off: most}, api.Bound{}, api.ErrReloc}, {"not mapped", high, api.Rel{Type: 1, Off: 0x4ffc}, api.Bound{}, api.ErrReloc}, {"not mapped far below", high, api.Rel{Type: 1, Off: most - 15}, api.Bound{}, api.ErrReloc},
		{"a copy from nowhere", object(), api.Rel{Type: 5, Off: 0x3000}, api.Bound{Addr: base + 5*api.Page - 1, Size: 2}, api.ErrReloc}, {"a copy too long", object(), api.Rel{Type: 5, Off: 0x3000}, api.Bound{Addr: base, Size: 0x1009}, api.ErrReloc}, {"a copy far too long", object(), api.Rel{Type: 5, Off: 0x3000}, api.Bound{Addr: base, Size: most}, api.ErrReloc}, {"a copy into text", object(), api.Rel{Type: 5, Off: 0x1000}, api.Bound{Addr: base, Size: 1}, api.ErrReloc},
	} {
		m := memory(t)
		if err := reloc.Apply(m, c.o, base, c.r, c.b); err != c.err {
			t.Errorf("P19.2: %s: %v", c.what, err)
		}
		changed(t, m, 0, 0)
		if err := reloc.Apply(nil, c.o, base, c.r, c.b); err != api.ErrArg {
			t.Errorf("P19.2: %s, without a memory: %v", c.what, err)
		}
	}
}

func TestCopy(t *testing.T) {
	m := memory(t)
	if err := m.Poke(base+0x800, []byte{5, 6, 7, 8, 9, 10, 11, 12, 13, 14}); err != nil {
		t.Fatal(err)
	}
	if err := reloc.Apply(m, object(), base, api.Rel{Type: 5, Off: 0x3ffc, Add: 99}, api.Bound{Addr: base + 0x800, Size: 10}); err != nil {
		t.Fatal(err)
	}
	if b, _ := m.Peek(base+0x3ffb, 12); !bytes.Equal(b, []byte{1, 5, 6, 7, 8, 9, 10, 11, 12, 13, 14, 1}) {
		t.Errorf("P19.2: a copy: %v", b)
	}
	for _, b := range []api.Bound{{}, {Addr: most}} {
		if err := reloc.Apply(m, object(), base, api.Rel{Type: 5, Off: most}, b); err != nil {
			t.Errorf("P19.2: a copy of no bytes: %v", err)
		}
	}
}

func TestPacked(t *testing.T) {
	m := memory(t)
	o := object()
	o.Relr = []uint64{0x3000, 0x4000}
	if err := m.Poke(base+0x3000, []byte{0xff, 0xff, 0xff, 0xff, 0xff, 0xff, 0xff, 0xff}); err != nil {
		t.Fatal(err)
	}
	if err := reloc.Packed(m, o, base); err != nil {
		t.Fatal(err)
	}
	if b, _ := m.Peek(base+0x4000, 8); !bytes.Equal(b, []byte{1, 1, 1, 0x21, 1, 1, 1, 1}) {
		t.Errorf("P19.3: %x", b)
	}
	if b, _ := m.Peek(base+0x3000, 9); !bytes.Equal(b, []byte{0xff, 0xff, 0xff, 0x1f, 0, 0, 0, 0, 1}) {
		t.Errorf("P19.3: %x", b)
	}
	for _, off := range []uint64{0x1000, 0x2000, 0x4001, most} {
		m := memory(t)
		o.Relr = []uint64{0x3010, off, 0x3020}
		if err := reloc.Packed(m, o, base); err != api.ErrReloc {
			t.Errorf("P19.3: at %x: %v", off, err)
		}
		if got := changed(t, m, 0x3010, 8); !bytes.Equal(got, []byte{1, 1, 1, 0x21, 1, 1, 1, 1}) {
			t.Errorf("P19.3: what was written ahead of an error: %x", got)
		}
	}
	o.Dyn.Textrel = true
	o.Relr = []uint64{0x1000}
	if err := reloc.Packed(memory(t), o, base); err != nil {
		t.Errorf("P19.3: in text: %v", err)
	}
	if err := reloc.Packed(memory(t), o, base+0x10000); err != api.ErrReloc {
		t.Errorf("P19.3: not mapped: %v", err)
	}
	if err := reloc.Packed(nil, api.Object{}, base); err != api.ErrArg {
		t.Errorf("P19.3: %v", err)
	}
}

func TestSlots(t *testing.T) {
	m := memory(t)
	o := object()
	o.Relr = []uint64{0x3100}
	o.Rels = []api.Rel{{Type: 7, Off: 0x3200}}
	o.Plt = []api.Rel{{Type: 6, Off: 0x3300}, {Type: 7, Off: 0x3000, Add: 77}, {Type: 37, Off: most}}
	if err := reloc.Slots(m, o, base); err != nil {
		t.Fatal(err)
	}
	if got := changed(t, m, 0x3000, 8); !bytes.Equal(got, []byte{1, 1, 1, 0x21, 1, 1, 1, 1}) {
		t.Errorf("P19.3: %x", got)
	}
	for _, off := range []uint64{0x1000, 0x2000, 0x4001} {
		m := memory(t)
		o.Plt = []api.Rel{{Type: 7, Off: 0x3000}, {Type: 7, Off: off}}
		if err := reloc.Slots(m, o, base); err != api.ErrReloc {
			t.Errorf("P19.3: at %x: %v", off, err)
		}
		changed(t, m, 0x3000, 8)
	}
	if err := reloc.Slots(nil, api.Object{}, base); err != api.ErrArg {
		t.Errorf("P19.3: %v", err)
	}
}
