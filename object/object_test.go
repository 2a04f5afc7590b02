package object_test

import (
	"bytes"
	"errors"
	"math"
	"math/rand/v2"
	"reflect"
	"testing"

	"shackle/api"
	"shackle/hash"
	"shackle/object"
)

// num lays numbers of so many bytes each behind bytes.
func num(b []byte, n int, l ...uint64) []byte {
	for _, v := range l {
		for i := range n {
			b = append(b, byte(v>>(8*i)))
		}
	}
	return b
}

// parts are the parts of a file that is one segment at address 0; nil ones are left out of its dynamic section.
type parts struct {
	strings, syms, hash, versym, verdef, rela, plt, relr []byte
	more                                                 [][2]uint64 // entries of the dynamic section
	symtab                                               uint64      // more than where the symbols lie
}

const (
	atA    = 1 // "a"
	atLib  = 3 // "lib.so"
	atV    = 10
	atLong = 13
)

var text = []byte("\x00a\x00lib.so\x00v1\x00" + string(bytes.Repeat([]byte{'n'}, 256)) + "\x00")

// whole is a file that is right.
func whole() parts {
	symbols := num(make([]byte, 24), 4, atA)
	symbols = append(symbols, 0x12, 0, 7, 0)
	symbols = num(symbols, 8, 0x40, 5)
	verdef := num(num(nil, 2, 1, 0, 2, 1), 4, uint64(hash.Sysv("v1")), 20, 0, atV, 0)
	return parts{strings: text, syms: symbols, hash: num(nil, 4, 1, 2, 1, 0, 0), versym: num(nil, 2, 0, 2), verdef: verdef,
		rela: num(nil, 8, 0x10, 1<<32|6, 3), plt: num(nil, 8, 0x18, 1<<32|7, 0), relr: num(nil, 8, 0x100, 3),
		more: [][2]uint64{{14, atLib}, {15, atA}, {29, atV}, {1, atLib}, {1, atA}}}
}

// file is their file.
func (p parts) file() []byte {
	b := make([]byte, 64+2*56)
	add := func(part []byte) uint64 {
		b = append(b, make([]byte, (8-len(b)%8)%8)...)
		b = append(b, part...)
		return uint64(len(b) - len(part))
	}
	var dyn []byte
	entry := func(tag, v uint64) { dyn = num(dyn, 8, tag, v) }
	entry(5, add(p.strings))
	entry(10, uint64(len(p.strings)))
	entry(6, add(p.syms)+p.symtab)
	entry(4, add(p.hash))
	if p.versym != nil {
		entry(0x6ffffff0, add(p.versym))
	}
	if p.verdef != nil {
		entry(0x6ffffffc, add(p.verdef))
		entry(0x6ffffffd, 1)
	}
	for i, part := range [][]byte{p.rela, p.plt, p.relr} {
		if part != nil {
			tags := [...][2]uint64{{7, 8}, {23, 2}, {36, 35}}[i]
			entry(tags[0], add(part))
			entry(tags[1], uint64(len(part)))
		}
	}
	for _, e := range p.more {
		entry(e[0], e[1])
	}
	entry(0, 0)
	at := add(dyn)
	header(b, at, uint64(len(dyn)))
	return b
}

// header lays the header of a file whose dynamic section is so long (0: none).
func header(b []byte, at, size uint64) {
	copy(b, "\x7fELF\x02\x01\x01")
	copy(b[16:], num(num(nil, 2, 3, 62), 4, 1))
	copy(b[24:], num(nil, 8, 0x99, 64))
	copy(b[52:], num(nil, 2, 64, 56, 1))
	n := uint64(len(b))
	copy(b[64:], num(num(nil, 4, api.PtLoad, 7), 8, 0, 0, 0, n, n, 4096))
	if size > 0 {
		b[56] = 2
		copy(b[120:], num(num(nil, 4, api.PtDynamic, 6), 8, at, at, at, size, size, 8))
	}
}

func TestParse(t *testing.T) {
	b := whole().file()
	o, err := object.Parse(b)
	if err != nil {
		t.Fatal(err)
	}
	if o.Head.Type != api.Shared || o.Head.Entry != 0x99 || len(o.Head.Progs) != 2 || !o.Dynamic || o.Dyn.Strsz != uint64(len(text)) || !bytes.Equal(o.Bytes, b) {
		t.Errorf("P10.1: %+v", o)
	}
	if o.Soname != "lib.so" || o.Rpath != "a" || o.Runpath != "v1" || !reflect.DeepEqual(o.Needed, []string{"lib.so", "a"}) {
		t.Errorf("P10.1: %q, %q, %q, %q", o.Soname, o.Rpath, o.Runpath, o.Needed)
	}
	if !reflect.DeepEqual(o.Syms, []api.Symbol{{}, {Name: "a", Bind: 1, Type: 2, Sect: 7, Value: 0x40, Size: 5}}) {
		t.Errorf("P10.1: %+v", o.Syms)
	}
	if !o.Vers.Has || !reflect.DeepEqual(o.Vers.Of, []int{0, 2}) || len(o.Vers.Defs) != 1 || o.Vers.Defs[0].Name != "v1" {
		t.Errorf("P10.1: %+v", o.Vers)
	}
	if !reflect.DeepEqual(o.Rels, []api.Rel{{Off: 0x10, Type: 6, Sym: 1, Add: 3}}) || !reflect.DeepEqual(o.Plt, []api.Rel{{Off: 0x18, Type: 7, Sym: 1}}) || !reflect.DeepEqual(o.Relr, []uint64{0x100, 0x108}) {
		t.Errorf("P10.1: %+v, %+v, %x", o.Rels, o.Plt, o.Relr)
	}
	b[len(b)-1] ^= 1
	if bytes.Equal(o.Bytes, b) {
		t.Error("P10.1: Bytes are no copy")
	}
}

func TestParseWithout(t *testing.T) {
	b := make([]byte, 64+56)
	header(b, 0, 0)
	o, err := object.Parse(b)
	if err != nil || o.Dynamic || len(o.Head.Progs) != 1 || !bytes.Equal(o.Bytes, b) {
		t.Fatalf("P10.1: %+v, %v", o, err)
	}
	o.Head, o.Bytes = api.Head{}, nil
	if !reflect.DeepEqual(o, api.Object{}) {
		t.Errorf("P10.1: more than there is: %+v", o)
	}
	p := parts{strings: text, syms: make([]byte, 24), hash: num(nil, 4, 1, 1, 0, 0), more: [][2]uint64{{12, 0}}}
	if o, err := object.Parse(p.file()); err != nil || o.Soname+o.Rpath+o.Runpath != "" || len(o.Needed) != 0 || o.Vers.Has || len(o.Syms) != 1 || !o.Dynamic {
		t.Errorf("P10.1: texts that aren't there: %+v, %v", o, err)
	}
}

// TestParseAmiss: every layer's error, each also beside all that come behind it.
func TestParseAmiss(t *testing.T) {
	if _, err := object.Parse(nil); !reflect.DeepEqual(err, &api.Spot{At: 0, Err: api.ErrRange}) {
		t.Errorf("P10.1: %v", err)
	}
	b := whole().file()
	b[4] = 1
	if o, err := object.Parse(b); !reflect.DeepEqual(err, &api.Spot{At: 4, Err: api.ErrForm}) || !reflect.DeepEqual(o, api.Object{}) {
		t.Errorf("P10.1: %v", err)
	}
	if _, err := object.Parse(make([]byte, api.MaxFile+1)); err != api.ErrLong {
		t.Errorf("P10.1: %v", err)
	}
	p := whole()
	steps := []struct {
		what string
		do   func(p *parts)
		err  error
	}{
		{"packed relocations", func(p *parts) { p.relr = num(nil, 8, 1) }, api.ErrForm},
		{"the table's relocations", func(p *parts) { p.plt = num(nil, 8, 0, 2<<32, 0) }, api.ErrRange},
		{"relocations", func(p *parts) { p.rela = make([]byte, 25) }, api.ErrForm},
		{"versions", func(p *parts) { p.versym = num(nil, 2, 0, 3) }, api.ErrForm},
		{"needed", func(p *parts) { p.more = append(p.more, [2]uint64{1, 9999}) }, api.ErrRange},
		{"needed, a long name", func(p *parts) { p.more[3][1] = atLong }, api.ErrLong},
		{"runpath", func(p *parts) { p.more[2][1] = 9999 }, api.ErrRange},
		{"rpath", func(p *parts) { p.more[1][1] = atLong }, api.ErrLong},
		{"soname", func(p *parts) { p.more[0][1] = math.MaxUint64 }, api.ErrRange},
		{"symbols", func(p *parts) { p.syms[28] = 0x32 }, api.ErrForm},
		{"symbols outside", func(p *parts) { p.symtab = 1 << 30 }, api.ErrRange},
		{"strings", func(p *parts) { p.strings = bytes.Repeat([]byte{1}, 9) }, api.ErrForm},
		{"the table", func(p *parts) { p.hash = num(nil, 4, 1, 4097) }, api.ErrLong},
		{"the dynamic section", func(p *parts) { p.more = append(p.more, [2]uint64{5, 5}) }, api.ErrTwice},
	}
	for _, s := range steps {
		s.do(&p)
		if o, err := object.Parse(p.file()); err != s.err || !reflect.DeepEqual(o, api.Object{}) {
			t.Errorf("P10.1: %s: %v", s.what, err)
		}
	}
	for n := 64; n <= 65; n++ {
		p := whole()
		p.more = nil
		for range n {
			p.more = append(p.more, [2]uint64{1, atA})
		}
		if o, err := object.Parse(p.file()); n == 64 && (err != nil || len(o.Needed) != 64) || n == 65 && err != api.ErrLong {
			t.Errorf("P10.1: %d needed: %v", n, err)
		}
		p.more[0][1] = 9999
		if _, err := object.Parse(p.file()); n == 65 && err != api.ErrLong || n == 64 && err != api.ErrRange {
			t.Errorf("P10.1: %d needed, the first amiss: %v", n, err)
		}
	}
}

// TestAnyBytes: every file is an object all of whose places lie within it, or an error.
func TestAnyBytes(t *testing.T) {
	good := whole().file()
	chance := rand.New(rand.NewPCG(1, 2))
	objects := 0
	for range 20000 {
		b := bytes.Clone(good)
		for range 1 + chance.IntN(3) {
			b[chance.IntN(len(b))] = [...]byte{0, 1, 2, 0x7f, 0x80, 0xff, byte(chance.IntN(256))}[chance.IntN(7)]
		}
		b = b[:len(b)-max(0, chance.IntN(40)-30)]
		o, err := object.Parse(b)
		if err != nil {
			if _, ok := err.(*api.Spot); !ok && !errors.As(err, new(api.Code)) || !reflect.DeepEqual(o, api.Object{}) {
				t.Fatalf("P10.2: %v", err)
			}
			continue
		}
		objects++
		lies(t, o, b)
	}
	if objects < 100 {
		t.Errorf("only %d objects", objects)
	}
}

// lies tells a place of an object that doesn't lie in its file.
func lies(t *testing.T, o api.Object, b []byte) {
	t.Helper()
	names := append([]string{o.Soname, o.Rpath, o.Runpath}, o.Needed...)
	for _, y := range o.Syms {
		names = append(names, y.Name)
	}
	for _, d := range o.Vers.Defs {
		names = append(append(names, d.Name), d.Parents...)
	}
	for _, n := range names {
		if !bytes.Contains(b, append([]byte(n), 0)) {
			t.Fatalf("P10.2: the name %q isn't in the file", n)
		}
	}
	for _, r := range append(o.Rels, o.Plt...) {
		if r.Sym != 0 && r.Sym >= len(o.Syms) {
			t.Fatalf("P10.2: the relocation %+v of %d symbols", r, len(o.Syms))
		}
	}
	if o.Vers.Has && len(o.Vers.Of) != len(o.Syms) {
		t.Fatalf("P10.2: %d words of %d symbols", len(o.Vers.Of), len(o.Syms))
	}
}
