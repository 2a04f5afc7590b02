package dyn_test

import (
	"bytes"
	"encoding/binary"
	"math"
	"reflect"
	"slices"
	"testing"

	"shackle/api"
	"shackle/dyn"
)

type entry [2]uint64

// section is the bytes of entries.
func section(l ...entry) []byte {
	var b []byte
	for _, e := range l {
		b = binary.LittleEndian.AppendUint64(b, e[0])
		b = binary.LittleEndian.AppendUint64(b, e[1])
	}
	return b
}

// read reads a section that lies at 5 in a file.
func read(b []byte) (api.Dyn, bool, error) {
	file := append([]byte{1, 2, 3, 4, 5}, b...)
	return dyn.Read(file, api.Head{Progs: []api.Prog{{Type: api.PtLoad}, {Type: api.PtDynamic, Off: 5, Filesz: uint64(len(b))}, {Type: api.PtDynamic, Off: 9999}}})
}

// basic are the entries that must be there.
func basic() []entry {
	return []entry{{5, 0x1000}, {10, 8}, {6, 0x1010}, {4, 0x1020}}
}

func example() api.Head {
	return api.Head{Progs: []api.Prog{{Type: api.PtLoad, Vaddr: 0x1000, Filesz: 0x200}, {Type: api.PtDynamic, Off: 0x100, Filesz: 0x100}}}
}

func TestOffset(t *testing.T) {
	several := api.Head{Progs: []api.Prog{
		{Type: api.PtTLS, Vaddr: 0, Filesz: 0x9000, Off: 7},
		{Type: api.PtLoad, Vaddr: 0x1000, Filesz: 0x100, Memsz: 0x1000, Off: 0x40},
		{Type: api.PtLoad, Vaddr: 0x1000, Filesz: 0x200, Off: 0x5000},
		{Type: api.PtLoad, Vaddr: 0x3000, Filesz: 0x100, Off: math.MaxUint64 - 0x80},
		{Type: api.PtLoad, Vaddr: 0x3000, Filesz: 0x100, Off: 1},
		{Type: api.PtLoad, Vaddr: math.MaxUint64 - 0xf, Filesz: 0x100, Off: 0x10},
	}}
	for _, c := range []struct {
		h          api.Head
		addr, size uint64
		want       uint64
		err        error
	}{
		{example(), 0x1010, 0x1f0, 0x10, nil}, {example(), 0x1010, 0x1f1, 0, api.ErrRange}, {example(), 0xfff, 1, 0, api.ErrRange},
		{example(), 0x1200, 0, 0x200, nil}, {example(), 0x1200, 1, 0, api.ErrRange}, {example(), 0x1201, 0, 0, api.ErrRange},
		{example(), 0x1010, math.MaxUint64, 0, api.ErrRange}, {api.Head{}, 0, 0, 0, api.ErrRange},
		{several, 0x1000, 0x100, 0x40, nil}, {several, 0x1000, 0x101, 0x5000, nil}, {several, 0x1100, 0, 0x140, nil},
		{several, 0x1101, 0, 0x5101, nil}, {several, 0x1000, 0x201, 0, api.ErrRange}, {several, 5, 1, 0, api.ErrRange},
		{several, 0x3080, 1, math.MaxUint64, nil}, {several, 0x3081, 1, 0, api.ErrRange}, {several, math.MaxUint64, 8, 0x1f, nil},
	} {
		if off, err := dyn.Offset(c.h, c.addr, c.size); off != c.want || err != c.err {
			t.Errorf("P5.1: Offset(%x, %x): %x, %v", c.addr, c.size, off, err)
		}
	}
}

func TestSlice(t *testing.T) {
	b := []byte("0123456789")
	h := api.Head{Progs: []api.Prog{{Type: api.PtLoad, Vaddr: 0x1000, Off: 4, Filesz: 0x100}}}
	for _, c := range []struct {
		addr, size uint64
		want       string
	}{{0x1000, 3, "456"}, {0x1002, 4, "6789"}, {0x1006, 0, ""}, {0x1001, 0, ""}} {
		got, err := dyn.Slice(b, h, c.addr, c.size)
		if string(got) != c.want || err != nil {
			t.Errorf("P5.2: Slice(%x, %d): %q, %v", c.addr, c.size, got, err)
		}
		for i := range got {
			got[i] = 'x'
		}
	}
	if string(b) != "0123456789" {
		t.Errorf("P5.2: what is answered isn't new: %q", b)
	}
	for _, c := range [][2]uint64{{0x1002, 5}, {0x1006, 1}, {0x1007, 0}, {0xfff, 1}, {0x1000, 0x100}, {0x1000, 0x101}, {0x1000, math.MaxUint64}} {
		if got, err := dyn.Slice(b, h, c[0], c[1]); got != nil || err != api.ErrRange {
			t.Errorf("P5.2: Slice(%x, %d): %q, %v", c[0], c[1], got, err)
		}
	}
	far := api.Head{Progs: []api.Prog{{Type: api.PtLoad, Off: math.MaxUint64, Filesz: 9}}}
	if _, err := dyn.Slice(b, far, 0, 2); err != api.ErrRange {
		t.Errorf("P5.2: %v", err)
	}
}

func TestReadNone(t *testing.T) {
	h := api.Head{Progs: example().Progs[:1]}
	if d, ok, err := dyn.Read(nil, h); ok || err != nil || !reflect.DeepEqual(d, api.Dyn{}) {
		t.Errorf("P5.3: %+v, %v, %v", d, ok, err)
	}
	if _, ok, err := dyn.Read(make([]byte, 0x1ff), example()); ok || err != api.ErrRange {
		t.Errorf("P5.3: outside: %v, %v", ok, err)
	}
	if _, _, err := dyn.Read(make([]byte, 9), api.Head{Progs: []api.Prog{{Type: api.PtDynamic, Off: math.MaxUint64, Filesz: 16}}}); err != api.ErrRange {
		t.Errorf("P5.3: far outside: %v", err)
	}
}

// all are entries of all tags, with a value of its own each, and what they tell.
func all() ([]entry, api.Dyn) {
	l := []entry{{1, 101}, {2, 102}, {3, 103}, {4, 104}, {5, 105}, {6, 106}, {7, 107}, {8, 108}, {9, 24}, {10, 110}, {11, 24}, {12, 112}, {13, 113},
		{14, 114}, {15, 115}, {16, 0}, {20, 7}, {22, 0}, {23, 123}, {24, 0}, {25, 125}, {26, 126}, {27, 127}, {28, 128}, {29, 129}, {30, 0x110},
		{35, 135}, {36, 136}, {37, 8}, {0x6ffffef5, 201}, {0x6ffffff0, 202}, {0x6ffffffb, 204}, {0x6ffffffc, 205}, {0x6ffffffd, 206}, {0x6ffffffe, 207}, {0x6fffffff, 208}, {1, 99}}
	return l, api.Dyn{
		Needed: []uint64{101, 99}, Pltrelsz: 102, Pltgot: 103, Hash: 104, Strtab: 105, Symtab: 106, Rela: 107, Relasz: 108, Strsz: 110, Init: 112, Fini: 113,
		Soname: 114, Rpath: 115, Runpath: 129, HasSoname: true, HasRpath: true, HasRunpath: true, Jmprel: 123, InitArray: 125, FiniArray: 126,
		InitArraysz: 127, FiniArraysz: 128, Flags: 0x110, Relr: 136, Relrsz: 135, GnuHash: 201, Versym: 202, Flags1: 204, Verdef: 205, Verdefnum: 206,
		Verneed: 207, Verneednum: 208, Symbolic: true, BindNow: true, Textrel: true, HasInit: true, HasFini: true,
	}
}

func TestReadAll(t *testing.T) {
	l, want := all()
	if d, ok, err := read(section(append(l, entry{0, 9})...)); !ok || err != nil || !reflect.DeepEqual(d, want) {
		t.Errorf("P5.3: %+v, %v, %v", d, ok, err)
	}
	few := api.Dyn{Strtab: 0x1000, Strsz: 8, Symtab: 0x1010, Hash: 0x1020, Needed: []uint64{1, 3}}
	if d, ok, err := read(section(append(basic(), entry{1, 1}, entry{1, 3}, entry{0, 0})...)); !ok || err != nil || !reflect.DeepEqual(d, few) {
		t.Errorf("P5.3: %+v, %v, %v", d, ok, err)
	}
}

// TestOrder: in whatever order the entries stand, what they tell is the same; what stands behind the end, or has another tag, changes nothing.
func TestOrder(t *testing.T) {
	l, want := all()
	want.Needed = []uint64{99, 101}
	slices.Reverse(l)
	b := section(append(slices.Insert(l, 7, entry{17, 1}, entry{17, 2}, entry{0x70000000, 1}, entry{21, 1}, entry{38, 1}, entry{1 << 32, 1}, entry{math.MaxUint64, 5}), entry{0, 9}, entry{5, 1}, entry{1, 7})...)
	for _, behind := range [][]byte{nil, {1}, bytes.Repeat([]byte{4}, 15)} {
		if d, ok, err := read(append(b, behind...)); !ok || err != nil || !reflect.DeepEqual(d, want) {
			t.Errorf("P5.4: %+v, %v, %v", d, ok, err)
		}
	}
}

func TestReadTwice(t *testing.T) {
	l, _ := all()
	for i, e := range l[1:36] {
		again := append(append(slices.Clone(l[:36]), entry{e[0], 77}), entry{0, 0})
		if _, ok, err := read(section(again...)); ok || err != api.ErrTwice {
			t.Errorf("P5.3: entry %d, tag %x twice: %v", i+1, e[0], err)
		}
	}
	if _, _, err := read(section(append(basic(), entry{5, 0x1000})...)); err != api.ErrTwice {
		t.Errorf("P5.3: twice ahead of no end: %v", err)
	}
}

func TestReadLong(t *testing.T) {
	many := func(n int) []entry {
		l := basic()
		for len(l) < n {
			l = append(l, entry{1, uint64(len(l))})
		}
		return l
	}
	if d, ok, err := read(section(append(many(256), entry{})...)); !ok || err != nil || len(d.Needed) != 252 {
		t.Errorf("P5.3: 256 entries: %v", err)
	}
	for _, l := range [][]entry{append(many(257), entry{}), many(257), append(many(256), entry{5, 5}), append(many(256), entry{99, 1}, entry{})} {
		if _, ok, err := read(section(l...)); ok || err != api.ErrLong {
			t.Errorf("P5.3: %d entries: %v", len(l), err)
		}
	}
	if _, _, err := read(section(slices.Insert(many(257), 9, entry{5, 5})...)); err != api.ErrTwice {
		t.Errorf("P5.3: the first that is amiss: %v", err)
	}
	if _, _, err := read(section(many(256)...)); err != api.ErrForm {
		t.Errorf("P5.3: without an end: %v", err)
	}
}

func TestReadForm(t *testing.T) {
	for _, c := range []struct {
		what string
		gone uint64
		more []entry
		ok   bool
	}{
		{"nothing more", 0, nil, true},
		{"PLTREL", 0, []entry{{20, 8}}, false}, {"PLTREL 0", 0, []entry{{20, 0}}, false}, {"PLTREL 7", 0, []entry{{20, 7}}, true},
		{"RELAENT", 0, []entry{{9, 23}}, false}, {"RELAENT 0", 0, []entry{{9, 0}}, false}, {"RELAENT 24", 0, []entry{{9, 24}}, true},
		{"SYMENT", 0, []entry{{11, 25}}, false}, {"SYMENT 24", 0, []entry{{11, 24}}, true},
		{"RELRENT", 0, []entry{{37, 24}}, false}, {"RELRENT 8", 0, []entry{{37, 8}}, true},
		{"no STRTAB", 5, nil, false}, {"no STRSZ", 10, nil, false}, {"no SYMTAB", 6, nil, false}, {"no HASH", 4, nil, false},
		{"STRTAB 0", 5, []entry{{5, 0}}, false}, {"STRSZ 0", 10, []entry{{10, 0}}, false}, {"SYMTAB 0", 6, []entry{{6, 0}}, false},
		{"HASH 0", 4, []entry{{4, 0}}, false}, {"both 0", 4, []entry{{4, 0}, {0x6ffffef5, 0}}, false},
		{"GNU_HASH alone", 4, []entry{{0x6ffffef5, 1}}, true}, {"both", 0, []entry{{0x6ffffef5, 1}}, true},
		{"VERDEF without VERSYM", 0, []entry{{0x6ffffffc, 1}, {0x6ffffffd, 1}}, false},
		{"VERNEED without VERSYM", 0, []entry{{0x6ffffffe, 1}, {0x6fffffff, 1}, {0x6ffffff0, 0}}, false},
		{"VERDEF 0 without VERSYM", 0, []entry{{0x6ffffffc, 0}, {0x6ffffffd, 0}, {0x6ffffffe, 0}}, true},
		{"VERSYM alone", 0, []entry{{0x6ffffff0, 1}}, true},
		{"VERSYM and both", 0, []entry{{0x6ffffff0, 1}, {0x6ffffffc, 1}, {0x6ffffffd, 1}, {0x6ffffffe, 1}, {0x6fffffff, 1}}, true},
	} {
		l := slices.DeleteFunc(basic(), func(e entry) bool { return e[0] == c.gone })
		d, ok, err := read(section(append(append(l, c.more...), entry{})...))
		if ok != c.ok || c.ok && err != nil || !c.ok && (err != api.ErrForm || !reflect.DeepEqual(d, api.Dyn{})) {
			t.Errorf("P5.3: %s: %+v, %v, %v", c.what, d, ok, err)
		}
	}
	for _, n := range []int{0, 15, 16 * 4, 16*4 + 15} {
		if _, ok, err := read(append(section(basic()...), make([]byte, 16)...)[:n]); ok || err != api.ErrForm {
			t.Errorf("P5.3: no end within %d bytes: %v", n, err)
		}
	}
}

func TestReadPairs(t *testing.T) {
	for _, p := range [][2]uint64{{7, 8}, {23, 2}, {36, 35}, {25, 27}, {26, 28}, {0x6ffffffc, 0x6ffffffd}, {0x6ffffffe, 0x6fffffff}} {
		for _, c := range []struct {
			l  []entry
			ok bool
		}{
			{[]entry{{p[0], 8}}, false}, {[]entry{{p[1], 8}}, false}, {[]entry{{p[0], 8}, {p[1], 0}}, false}, {[]entry{{p[1], 8}, {p[0], 0}}, false},
			{[]entry{{p[0], 8}, {p[1], 8}}, true}, {[]entry{{p[0], 0}}, true}, {[]entry{{p[1], 0}, {p[0], 0}}, true},
		} {
			l := append(append(basic(), c.l...), entry{0x6ffffff0, 1}, entry{})
			if _, ok, err := read(section(l...)); ok != c.ok || !c.ok && err != api.ErrForm {
				t.Errorf("P5.3: the pair %v: %v, %v", c.l, ok, err)
			}
		}
	}
}

func TestReadFlags(t *testing.T) {
	for _, c := range []struct {
		e                          entry
		symbolic, textrel, bindNow bool
	}{
		{entry{30, 1}, false, false, false}, {entry{30, 2}, true, false, false}, {entry{30, 4}, false, true, false}, {entry{30, 8}, false, false, true},
		{entry{30, 0xf0}, false, false, false}, {entry{30, 14}, true, true, true}, {entry{0x6ffffffb, 1}, false, false, true}, {entry{0x6ffffffb, 0xfffe}, false, false, false},
		{entry{16, 5}, true, false, false}, {entry{22, 5}, false, true, false}, {entry{24, 0}, false, false, true},
	} {
		d, _, err := read(section(append(basic(), c.e, entry{})...))
		if err != nil || d.Symbolic != c.symbolic || d.Textrel != c.textrel || d.BindNow != c.bindNow {
			t.Errorf("P5.3: %x: %+v, %v", c.e, d, err)
		}
	}
	d, _, err := read(section(append(basic(), entry{12, 0}, entry{13, 0}, entry{14, 0}, entry{15, 0}, entry{29, 0}, entry{})...))
	if err != nil || !d.HasInit || !d.HasFini || !d.HasSoname || !d.HasRpath || !d.HasRunpath {
		t.Errorf("P5.3: tags of the value 0: %+v, %v", d, err)
	}
}
