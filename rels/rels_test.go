package rels_test

import (
	"encoding/binary"
	"math"
	"reflect"
	"slices"
	"testing"

	"shackle/api"
	"shackle/rels"
)

const most = 16384

// numbers is numbers of 8 bytes.
func numbers(l ...uint64) []byte {
	var b []byte
	for _, v := range l {
		b = binary.LittleEndian.AppendUint64(b, v)
	}
	return b
}

// at is a file that is one segment at 0x1000.
func at(b []byte) ([]byte, api.Head) {
	return b, api.Head{Progs: []api.Prog{{Type: api.PtLoad, Vaddr: 0x1000, Filesz: uint64(len(b))}}}
}

// rising is n addresses from one on, so far apart.
func rising(from uint64, n int, step uint64) []uint64 {
	var l []uint64
	for i := range uint64(n) {
		l = append(l, from+i*step)
	}
	return l
}

func TestUnpack(t *testing.T) {
	all63 := append([]uint64{0x1000}, rising(0x1008, 63, 8)...)
	for _, c := range []struct {
		l, want []uint64
		err     error
	}{
		{nil, nil, nil},
		{[]uint64{0x1000, 3}, []uint64{0x1000, 0x1008}, nil},
		{[]uint64{0x1000, 1<<63 | 1}, []uint64{0x1000, 0x11f8}, nil},
		{[]uint64{3}, nil, api.ErrForm}, {[]uint64{1, 0}, nil, api.ErrForm},
		{[]uint64{0x1000, math.MaxUint64}, all63, nil},
		{[]uint64{0x1000, 1, 3}, []uint64{0x1000, 0x1200}, nil},
		{[]uint64{0x1000, 3, 5, 0x20, 3}, []uint64{0x1000, 0x1008, 0x1208, 0x20, 0x28}, nil},
		{[]uint64{0x1000, 0x10, 0x1000}, []uint64{0x1000, 0x10, 0x1000}, nil},
		{[]uint64{math.MaxUint64 - 7, 7, 3}, []uint64{math.MaxUint64 - 7, 0, 8, 504}, nil},
		{rising(0, most, 2), rising(0, most, 2), nil}, {rising(0, most+1, 2), nil, api.ErrLong},
	} {
		if l, err := rels.Unpack(c.l); !slices.Equal(l, c.want) || err != c.err {
			t.Errorf("P9.1: Unpack(%x): %x, %v", c.l, l, err)
		}
	}
	full := append([]uint64{0}, slices.Repeat([]uint64{math.MaxUint64}, 260)...) // 1 and 260 times 63: 16381
	if l, err := rels.Unpack(full); len(l) != 16381 || err != nil {
		t.Errorf("P9.1: %d, %v", len(l), err)
	}
	if l, err := rels.Unpack(append(full, 15)); len(l) != most || err != nil {
		t.Errorf("P9.1: %d, %v", len(l), err)
	}
	for _, more := range [][]uint64{{31}, {15, 1, 1, 0}, {math.MaxUint64}} {
		if l, err := rels.Unpack(append(full, more...)); l != nil || err != api.ErrLong {
			t.Errorf("P9.1: %d, %v", len(l), err)
		}
	}
	if l, err := rels.Unpack(append([]uint64{8}, slices.Repeat([]uint64{1}, 20000)...)); len(l) != 1 || err != nil {
		t.Errorf("P9.1: many numbers: %d, %v", len(l), err)
	}
}

func TestPack(t *testing.T) {
	for _, c := range []struct {
		l, want []uint64
		err     error
	}{
		{nil, nil, nil}, {[]uint64{0}, []uint64{0}, nil},
		{[]uint64{0x1000, 0x1008, 0x1018}, []uint64{0x1000, 0xb}, nil},
		{[]uint64{0x1000, 0x2000}, []uint64{0x1000, 0x2000}, nil},
		{[]uint64{1}, nil, api.ErrForm}, {[]uint64{2, 3}, nil, api.ErrForm}, {[]uint64{8, 8}, nil, api.ErrForm}, {[]uint64{8, 6}, nil, api.ErrForm},
		{[]uint64{0x1000, 0x11f8}, []uint64{0x1000, 1<<63 | 1}, nil},
		{[]uint64{0x1000, 0x1200}, []uint64{0x1000, 0x1200}, nil},
		{[]uint64{0x1000, 0x1008, 0x1200}, []uint64{0x1000, 3, 3}, nil},
		{[]uint64{0x1000, 0x1008, 0x13f0}, []uint64{0x1000, 3, 1<<63 | 1}, nil},
		{[]uint64{0x1000, 0x1008, 0x13f8}, []uint64{0x1000, 3, 0x13f8}, nil},
		{[]uint64{0x1000, 0x1002, 0x1008}, []uint64{0x1000, 0x1002, 0x1008}, nil},
		{[]uint64{0x1000, 0x1008, 0x100a, 0x1010}, []uint64{0x1000, 3, 0x100a, 0x1010}, nil},
		{[]uint64{0x1000, 0x1004, 0x100c}, []uint64{0x1000, 0x1004, 3}, nil},
		{[]uint64{2, 10, 0x1001002}, []uint64{2, 3, 0x1001002}, nil},
		{[]uint64{math.MaxUint64 - 15, math.MaxUint64 - 7, math.MaxUint64 - 1}, []uint64{math.MaxUint64 - 15, 3, math.MaxUint64 - 1}, nil},
		{rising(0x1000, 1+63*3, 8), []uint64{0x1000, math.MaxUint64, math.MaxUint64, math.MaxUint64}, nil},
		{rising(0, most, 0x1000), rising(0, most, 0x1000), nil}, {rising(0, most+1, 0x1000), nil, api.ErrLong},
		{append(rising(0, most+1, 0x1000), 7), nil, api.ErrForm},
	} {
		if l, err := rels.Pack(c.l); !slices.Equal(l, c.want) || err != c.err {
			t.Errorf("P9.2: Pack(%x): %x, %v", c.l, l, err)
		}
	}
}

// TestPackUnpack: Unpack of what Pack answers are the addresses; what is handed in isn't changed.
func TestPackUnpack(t *testing.T) {
	var l []uint64
	at := uint64(0x100)
	for i := range 3000 {
		at += [...]uint64{8, 8, 16, 8, 504, 2, 512, 8, 0x3000, 24, 6}[i*i%11]
		l = append(l, at)
	}
	want := slices.Clone(l)
	packed, err := rels.Pack(l)
	if err != nil || len(packed) >= len(l) {
		t.Fatalf("P9.4: %d, %v", len(packed), err)
	}
	got, err := rels.Unpack(packed)
	if err != nil || !slices.Equal(got, want) || !slices.Equal(l, want) || !slices.IsSorted(got) {
		t.Errorf("P9.4: %v", err)
	}
	for i := range 64 {
		one := []uint64{0, 8 * uint64(i+1)}
		packed, _ := rels.Pack(one)
		if got, err := rels.Unpack(packed); err != nil || !slices.Equal(got, one) {
			t.Errorf("P9.4: %x: %x, %x, %v", one, packed, got, err)
		}
	}
}

func TestRead(t *testing.T) {
	first := numbers(0x10, 0x0000000200000006, math.MaxUint64, math.MaxUint64, 0xffffffff, 1<<63)
	second := numbers(5, 3<<32|7, 0)
	b, h := at(slices.Concat(first, second, numbers(0x1000, 3)))
	d := api.Dyn{Rela: 0x1000, Relasz: 48, Jmprel: 0x1030, Pltrelsz: 24, Relr: 0x1048, Relrsz: 16}
	all, plt, packed, err := rels.Read(b, h, d, 4)
	if err != nil || !reflect.DeepEqual(all, []api.Rel{{Off: 0x10, Type: 6, Sym: 2, Add: -1}, {Off: math.MaxUint64, Type: math.MaxUint32, Add: math.MinInt64}}) ||
		!reflect.DeepEqual(plt, []api.Rel{{Off: 5, Type: 7, Sym: 3}}) || !slices.Equal(packed, []uint64{0x1000, 0x1008}) {
		t.Errorf("P9.3: %+v, %+v, %x, %v", all, plt, packed, err)
	}
	for _, d := range []api.Dyn{{}, {Rela: 5, Jmprel: 6, Relr: 7}} { // where nothing is told nothing is asked
		all, plt, packed, err := rels.Read(b, h, d, -5)
		if err != nil || len(all)+len(plt)+len(packed) != 0 {
			t.Errorf("P9.3: %v", err)
		}
	}
}

func TestReadAmiss(t *testing.T) {
	sym := numbers(0, 3<<32, 0)
	b, h := at(slices.Concat(sym, numbers(0, 0, 0), numbers(1, 1, 1)))
	good, bad, far := uint64(0x1018), uint64(0x1000), uint64(0x5000)
	for _, c := range []struct {
		what string
		d    api.Dyn
		n    int
		err  error
	}{
		{"a size", api.Dyn{Rela: far, Relasz: 25}, 9, api.ErrForm},
		{"a size ahead of too many", api.Dyn{Rela: far, Relasz: math.MaxUint64}, 9, api.ErrForm},
		{"too many", api.Dyn{Rela: far, Relasz: 24 * (most + 1)}, 9, api.ErrLong},
		{"far too many", api.Dyn{Rela: far, Relasz: math.MaxUint64 / 24 * 24}, 9, api.ErrLong},
		{"as many as may be, outside", api.Dyn{Rela: bad, Relasz: 24 * most}, 9, api.ErrRange},
		{"outside", api.Dyn{Rela: far, Relasz: 24}, 9, api.ErrRange},
		{"a symbol", api.Dyn{Rela: bad, Relasz: 24}, 3, api.ErrRange},
		{"a symbol of none", api.Dyn{Rela: bad, Relasz: 24}, 0, api.ErrRange},
		{"a symbol of fewer than none", api.Dyn{Rela: bad, Relasz: 24}, -1, api.ErrRange},
		{"no symbol of none", api.Dyn{Rela: good, Relasz: 24}, 0, nil},
		{"no symbol of fewer than none", api.Dyn{Rela: good, Relasz: 24}, -1, nil},
		{"the last symbol", api.Dyn{Rela: bad, Relasz: 24}, 4, nil},
		{"the table's size", api.Dyn{Rela: good, Relasz: 24, Jmprel: far, Pltrelsz: 23}, 0, api.ErrForm},
		{"too many of the table", api.Dyn{Jmprel: far, Pltrelsz: 24 * (most + 1)}, 9, api.ErrLong},
		{"the table outside", api.Dyn{Jmprel: far, Pltrelsz: 24}, 9, api.ErrRange},
		{"a symbol of the table", api.Dyn{Jmprel: bad, Pltrelsz: 24}, 3, api.ErrRange},
		{"relocations ahead of the table", api.Dyn{Rela: bad, Relasz: 24, Jmprel: far, Pltrelsz: 1}, 3, api.ErrRange},
		{"packed ones of a size", api.Dyn{Relr: far, Relrsz: 7}, 9, api.ErrForm},
		{"too many packed ones", api.Dyn{Relr: far, Relrsz: 8 * (most + 1)}, 9, api.ErrLong},
		{"packed ones outside", api.Dyn{Relr: far, Relrsz: 8}, 9, api.ErrRange},
		{"packed ones that begin odd", api.Dyn{Relr: 0x1030, Relrsz: 8}, 9, api.ErrForm},
		{"the table ahead of packed ones", api.Dyn{Jmprel: far, Pltrelsz: 24, Relr: far, Relrsz: 7}, 9, api.ErrRange},
	} {
		all, plt, packed, err := rels.Read(b, h, c.d, c.n)
		if err != c.err || err != nil && len(all)+len(plt)+len(packed) != 0 {
			t.Errorf("P9.3: %s: %v, %v, %v, %v", c.what, all, plt, packed, err)
		}
	}
	b, h = at(append(numbers(2), numbers(slices.Repeat([]uint64{math.MaxUint64}, 261)...)...))
	if _, _, l, err := rels.Read(b, h, api.Dyn{Relr: 0x1000, Relrsz: uint64(len(b))}, 0); l != nil || err != api.ErrLong {
		t.Errorf("P9.3: packed ones that tell too many: %v", err)
	}
}
