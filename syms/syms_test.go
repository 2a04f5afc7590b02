package syms_test

import (
	"bytes"
	"encoding/binary"
	"math"
	"reflect"
	"strings"
	"testing"

	"shackle/api"
	"shackle/syms"
)

// symbol is the bytes of a symbol.
func symbol(name uint32, info, other byte, sect uint16, value, size uint64) []byte {
	b := binary.LittleEndian.AppendUint32(nil, name)
	b = append(b, info, other)
	b = binary.LittleEndian.AppendUint16(b, sect)
	b = binary.LittleEndian.AppendUint64(b, value)
	return binary.LittleEndian.AppendUint64(b, size)
}

// file is a file whose strings lie at 0x1010 and whose symbols at 0x1010 and as much more; a segment of it is all.
func file(text string, symbols ...[]byte) ([]byte, api.Head, api.Dyn) {
	b := append(bytes.Repeat([]byte{0x77}, 16), text...)
	at := len(b)
	for _, s := range symbols {
		b = append(b, s...)
	}
	h := api.Head{Progs: []api.Prog{{Type: api.PtLoad, Vaddr: 0x1000, Filesz: uint64(len(b))}}}
	return b, h, api.Dyn{Strtab: 0x1010, Strsz: uint64(len(text)), Symtab: 0x1000 + uint64(at)}
}

var null = make([]byte, 24)

func TestStrings(t *testing.T) {
	b, h, d := file("\x00ab\x00")
	s, err := syms.Strings(b, h, d)
	if string(s) != "\x00ab\x00" || err != nil {
		t.Fatalf("P6.1: %q, %v", s, err)
	}
	s[1] = 'x'
	if b[17] != 'a' {
		t.Error("P6.1: what is answered isn't new")
	}
	d.Strsz = 1
	if s, err := syms.Strings(b, h, d); string(s) != "\x00" || err != nil {
		t.Errorf("P6.1: %q, %v", s, err)
	}
	for _, c := range []struct {
		d   api.Dyn
		err error
	}{
		{api.Dyn{Strtab: 0x1010, Strsz: 0}, api.ErrForm}, {api.Dyn{Strtab: 0x1011, Strsz: 3}, api.ErrForm}, {api.Dyn{Strtab: 0x1010, Strsz: 3}, api.ErrForm},
		{api.Dyn{Strtab: 0x1010, Strsz: 5}, api.ErrRange}, {api.Dyn{Strtab: 0x100, Strsz: 4}, api.ErrRange}, {api.Dyn{Strtab: 0x1010, Strsz: api.MaxFile}, api.ErrRange},
		{api.Dyn{Strtab: 0x100, Strsz: api.MaxFile + 1}, api.ErrLong}, {api.Dyn{Strtab: 0x1010, Strsz: math.MaxUint64}, api.ErrLong},
	} {
		if s, err := syms.Strings(b, h, c.d); s != nil || err != c.err {
			t.Errorf("P6.1: %x, %x: %q, %v", c.d.Strtab, c.d.Strsz, s, err)
		}
	}
}

func TestText(t *testing.T) {
	long := "\x00" + strings.Repeat("n", 255) + "\x00" + strings.Repeat("m", 256) + "\x00z"
	for _, c := range []struct {
		s    string
		at   uint64
		want string
		err  error
	}{
		{"\x00ab\x00", 1, "ab", nil}, {"\x00ab\x00", 2, "b", nil}, {"\x00ab\x00", 3, "", nil}, {"\x00ab\x00", 0, "", nil},
		{"\x00ab\x00", 4, "", api.ErrRange}, {"\x00ab\x00", math.MaxUint64, "", api.ErrRange}, {"ab", 0, "", api.ErrRange}, {"", 0, "", api.ErrRange},
		{long, 1, strings.Repeat("n", 255), nil}, {long, 257, "", api.ErrLong}, {long, 258, strings.Repeat("m", 255), nil},
		{long, uint64(len(long) - 1), "", api.ErrRange}, {strings.Repeat("x", 300), 0, "", api.ErrRange},
	} {
		if s, err := syms.Text([]byte(c.s), c.at); s != c.want || err != c.err {
			t.Errorf("P6.2: Text(%.20q, %d): %q, %v", c.s, c.at, s, err)
		}
	}
}

func TestRead(t *testing.T) {
	b, h, d := file("\x00ab\x00c\x00", null,
		symbol(1, 0x12, 0, 7, 0x1122334455667788, 9),
		symbol(2, 0x20, 3, 0xfff1, math.MaxUint64, math.MaxUint64),
		symbol(4, 0x0a, 0xfe, 0, 0, 0),
		symbol(3, 0x16, 5, 1, 0, 0), symbol(0, 0x03, 0, 1, 0, 0), symbol(0, 0x04, 0, 1, 0, 0), symbol(0, 0x11, 0, 1, 0, 0))
	want := []api.Symbol{
		{},
		{Name: "ab", Bind: api.Global, Type: api.Func, Sect: 7, Value: 0x1122334455667788, Size: 9},
		{Name: "b", Bind: api.Weak, Type: api.NoType, Vis: api.Protected, Sect: 0xfff1, Value: math.MaxUint64, Size: math.MaxUint64},
		{Name: "c", Bind: api.Local, Type: api.Ifunc, Vis: api.Hidden},
		{Bind: api.Global, Type: api.TLS, Vis: api.Internal, Sect: 1},
		{Type: 3, Sect: 1}, {Type: 4, Sect: 1}, {Bind: api.Global, Type: api.Data, Sect: 1},
	}
	for n := 1; n <= len(want); n++ { // fewer are the first ones
		if l, err := syms.Read(b, h, d, n); err != nil || !reflect.DeepEqual(l, want[:n]) {
			t.Errorf("P6.3: %d: %+v, %v", n, l, err)
		}
	}
	if l, err := syms.Read(b, h, d, 0); len(l) != 0 || err != nil {
		t.Errorf("P6.3: none: %+v, %v", l, err)
	}
	for n, want := range map[int]error{-1: api.ErrArg, math.MinInt: api.ErrArg, 4097: api.ErrLong, math.MaxInt: api.ErrLong, 9: api.ErrRange, 4096: api.ErrRange} {
		if l, err := syms.Read(b, h, d, n); l != nil || err != want {
			t.Errorf("P6.3: %d: %v", n, err)
		}
	}
	d.Strsz = 0
	for n, want := range map[int]error{-1: api.ErrArg, 4097: api.ErrLong, 9: api.ErrForm, 0: api.ErrForm} {
		if _, err := syms.Read(b, h, d, n); err != want {
			t.Errorf("P6.3: %d, without strings: %v", n, err)
		}
	}
}

func TestReadAmiss(t *testing.T) {
	long := "\x00" + strings.Repeat("n", 256) + "\x00"
	for _, c := range []struct {
		what string
		l    [][]byte
		err  error
	}{
		{"a first symbol with a name", [][]byte{symbol(1, 0, 0, 0, 0, 0)}, api.ErrForm},
		{"a first symbol with a size", [][]byte{symbol(0, 0, 0, 0, 0, 1<<63), symbol(999, 0, 0, 0, 0, 0)}, api.ErrForm},
		{"a first symbol amiss and a name amiss", [][]byte{symbol(999, 0x30, 0, 0, 0, 0)}, api.ErrForm},
		{"a name outside", [][]byte{null, symbol(258, 0x35, 0, 0, 0, 0)}, api.ErrRange},
		{"a long name", [][]byte{null, symbol(1, 0x35, 0, 0, 0, 0)}, api.ErrLong},
		{"bind 3", [][]byte{null, symbol(0, 0x30, 0, 0, 0, 0), symbol(999, 0, 0, 0, 0, 0)}, api.ErrForm},
		{"bind 10", [][]byte{null, symbol(0, 0xa0, 0, 0, 0, 0)}, api.ErrForm},
	} {
		b, h, d := file(long, c.l...)
		if l, err := syms.Read(b, h, d, len(c.l)); l != nil || err != c.err {
			t.Errorf("P6.3: %s: %+v, %v", c.what, l, err)
		}
	}
	for kind := byte(0); kind < 16; kind++ {
		b, h, d := file("\x00", null, symbol(0, 0x10|kind, 0, 0, 0, 0))
		_, err := syms.Read(b, h, d, 2)
		if may := strings.IndexByte("\x00\x01\x02\x03\x04\x06\x0a", kind) >= 0; may && err != nil || !may && err != api.ErrForm {
			t.Errorf("P6.3: type %d: %v", kind, err)
		}
	}
}

// TestNames: every name that is told stands in the strings, with a byte 0 behind it.
func TestNames(t *testing.T) {
	text := "\x00one\x00two\x00\x00\xff\x00"
	l := [][]byte{null}
	for i := range len(text) {
		l = append(l, symbol(uint32(i), 0x10, 0, 0, 0, 0))
	}
	b, h, d := file(text, l...)
	got, err := syms.Read(b, h, d, len(l))
	if err != nil {
		t.Fatal(err)
	}
	for i, y := range got[1:] {
		if !strings.HasPrefix(text[i:], y.Name+"\x00") || strings.Contains(y.Name, "\x00") {
			t.Errorf("P6.4: the name at %d: %q", i, y.Name)
		}
	}
}
