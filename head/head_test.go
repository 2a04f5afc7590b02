package head_test

import (
	"bytes"
	"encoding/binary"
	"math"
	"reflect"
	"strings"
	"testing"

	"shackle/api"
	"shackle/head"
)

func isSpot(err error, at uint64, code api.Code) bool {
	s, ok := err.(*api.Spot)
	return ok && s.At == at && s.Err == code
}

// put lays a number into bytes.
func put(b []byte, at, n int, v uint64) {
	for i := range n {
		b[at+i] = byte(v >> (8 * i))
	}
}

// raw is a file's header with its program headers at a place, and what isn't looked at filled with rubbish.
func raw(begin int, progs ...api.Prog) []byte {
	b := bytes.Repeat([]byte{0xa5}, 64)
	copy(b, "\x7fELF\x02\x01\x01\x00")
	for _, n := range [][3]uint64{{16, 2, 3}, {18, 2, 62}, {20, 4, 1}, {24, 8, 0x1234}, {32, 8, uint64(begin)}, {52, 2, 64}, {54, 2, 56}, {56, 2, uint64(len(progs))}} {
		put(b, int(n[0]), int(n[1]), n[2])
	}
	if more := begin + 56*len(progs) - 64; more > 0 {
		b = append(b, bytes.Repeat([]byte{0xa5}, more)...)
	}
	for i, p := range progs {
		at := begin + 56*i
		put(b, at, 4, uint64(p.Type))
		put(b, at+4, 4, uint64(p.Flags))
		put(b, at+8, 8, p.Off)
		put(b, at+16, 8, p.Vaddr)
		put(b, at+32, 8, p.Filesz)
		put(b, at+40, 8, p.Memsz)
		put(b, at+48, 8, p.Align)
	}
	return b
}

func load(vaddr, memsz uint64) api.Prog {
	return api.Prog{Type: api.PtLoad, Vaddr: vaddr, Off: vaddr % 4096, Memsz: memsz, Align: 4096}
}

func TestRead(t *testing.T) {
	progs := []api.Prog{
		{Type: api.PtNote, Flags: 9, Off: 3, Filesz: 4, Vaddr: math.MaxUint64, Memsz: 1, Align: 3},
		{Type: api.PtLoad, Flags: 5, Off: 0x10, Vaddr: 0x10, Filesz: 5, Memsz: 0xff0, Align: 4096},
		{Type: 0x12345, Flags: math.MaxUint32, Off: math.MaxUint64, Vaddr: 7, Filesz: 8, Memsz: math.MaxUint64, Align: 77},
		{Type: api.PtLoad, Flags: 6, Vaddr: 0x1000, Memsz: 1, Align: 4096},
		{Type: api.PtTLS, Off: 1, Vaddr: 2, Filesz: 3, Memsz: 4},
		{Type: api.PtRelro, Off: math.MaxUint64, Filesz: 1, Vaddr: 0x1000, Memsz: 1},
		{Type: api.PtStack, Off: math.MaxUint64, Filesz: 1, Vaddr: math.MaxUint64, Memsz: 8},
		{Type: api.PtPhdr, Off: math.MaxUint64, Filesz: 1}, {Type: api.PtPhdr, Off: 1}, {Type: api.PtNote},
	}
	for _, begin := range []int{64, 65, 200} {
		h, err := head.Read(raw(begin, progs...))
		if want := (api.Head{Type: 3, Entry: 0x1234, Progs: progs}); err != nil || !reflect.DeepEqual(h, want) {
			t.Errorf("P4.1: %+v, %v", h, err)
		}
	}
	b := raw(64, load(0x5000, 1))
	b[7], b[16] = 3, 2
	if h, err := head.Read(b); err != nil || h.Type != api.Exec {
		t.Errorf("P4.1: %+v, %v", h, err)
	}
}

func TestReadShort(t *testing.T) {
	b := raw(64, load(0, 1))
	for n := range 64 {
		if h, err := head.Read(b[:n]); !isSpot(err, uint64(n), api.ErrRange) || h.Progs != nil {
			t.Errorf("P4.1: %d bytes: %v", n, err)
		}
	}
	if _, err := head.Read(make([]byte, api.MaxFile+1)); err != api.ErrLong {
		t.Errorf("P4.1: a long file: %v", err)
	}
	if _, err := head.Read(make([]byte, 64)); !isSpot(err, 0, api.ErrForm) {
		t.Errorf("P4.1: noughts: %v", err)
	}
	if _, err := head.Read(append(b, make([]byte, api.MaxFile-len(b))...)); err != nil {
		t.Errorf("P4.1: a file of the greatest length: %v", err)
	}
}

// TestReadConstants: each of the numbers that must stand somewhere, the first one that doesn't being told.
func TestReadConstants(t *testing.T) {
	good := raw(64, load(0, 1))
	places := []int{0, 1, 2, 3, 4, 5, 6, 7, 16, 18, 20, 52, 54}
	ends := []int{0, 1, 2, 3, 4, 5, 6, 7, 17, 19, 23, 53, 55}
	for i, at := range places {
		for _, k := range []int{at, ends[i]} {
			b := bytes.Clone(good)
			b[k] ^= 0x40
			for _, later := range places[i+1:] {
				b[later] ^= 0x40
			}
			b[56] = 0
			if _, err := head.Read(b); !isSpot(err, uint64(at), api.ErrForm) {
				t.Errorf("P4.1: byte %d: %v", k, err)
			}
		}
	}
	for _, at := range places[:7] {
		for _, more := range []byte{1, 0xff, 2} {
			b := bytes.Clone(good)
			b[at] += more
			if _, err := head.Read(b); !isSpot(err, uint64(at), api.ErrForm) {
				t.Errorf("P4.1: byte %d is %d: %v", at, b[at], err)
			}
		}
	}
	for _, c := range [][2]byte{{7, 1}, {7, 2}, {16, 1}, {16, 4}, {16, 0}, {18, 61}, {18, 63}, {20, 0}, {20, 2}, {52, 63}, {52, 65}, {54, 55}, {54, 57}} {
		b := bytes.Clone(good)
		b[c[0]] = c[1]
		if _, err := head.Read(b); !isSpot(err, uint64(c[0]), api.ErrForm) {
			t.Errorf("P4.1: byte %d is %d: %v", c[0], c[1], err)
		}
	}
}

func TestReadTable(t *testing.T) {
	b := raw(64, load(0, 1))
	for _, c := range []struct {
		count, begin uint64
		at           uint64
		err          api.Code
	}{
		{0, 9999, 56, api.ErrForm}, {17, 9999, 56, api.ErrLong}, {65535, 0, 56, api.ErrLong},
		{2, 64, 32, api.ErrRange}, {1, 65, 32, api.ErrRange}, {1, math.MaxUint64, 32, api.ErrRange}, {1, math.MaxUint64 - 55, 32, api.ErrRange},
	} {
		b := bytes.Clone(b)
		put(b, 56, 2, c.count)
		put(b, 32, 8, c.begin)
		if _, err := head.Read(b); !isSpot(err, c.at, c.err) {
			t.Errorf("P4.1: %d at %x: %v", c.count, c.begin, err)
		}
	}
	var many []api.Prog
	for i := range uint64(16) {
		many = append(many, load(i*4096, 4096))
	}
	if h, err := head.Read(raw(64, many...)); err != nil || len(h.Progs) != 16 {
		t.Errorf("P4.1: 16 program headers: %v", err)
	}
}

func TestReadProgs(t *testing.T) {
	const far = api.MaxAddr
	ok := load(0x1000, 1)
	with := func(p api.Prog, do func(*api.Prog)) api.Prog { do(&p); return p }
	for _, c := range []struct {
		what string
		at   uint64 // behind the beginning of the last program header
		err  api.Code
		l    []api.Prog
	}{
		{"two dynamic", 0, api.ErrTwice, []api.Prog{{Type: api.PtDynamic}, ok, {Type: api.PtDynamic, Off: far}}},
		{"two interpreters", 0, api.ErrTwice, []api.Prog{{Type: api.PtInterp}, ok, {Type: api.PtInterp}}},
		{"two TLS", 0, api.ErrTwice, []api.Prog{{Type: api.PtTLS}, {Type: api.PtTLS, Filesz: 1}}},
		{"two relro", 0, api.ErrTwice, []api.Prog{{Type: api.PtRelro}, {Type: api.PtRelro}}},
		{"two stacks", 0, api.ErrTwice, []api.Prog{{Type: api.PtStack}, {Type: api.PtStack}}},
		{"a load outside", 8, api.ErrRange, []api.Prog{{Type: api.PtLoad, Off: 0, Filesz: 1 << 20, Vaddr: far + 1}}},
		{"a load far outside", 8, api.ErrRange, []api.Prog{{Type: api.PtLoad, Off: math.MaxUint64, Filesz: 2}}},
		{"dynamic outside", 8, api.ErrRange, []api.Prog{{Type: api.PtDynamic, Off: 9999}}},
		{"interpreter outside", 8, api.ErrRange, []api.Prog{{Type: api.PtInterp, Off: 100, Filesz: 9999}}},
		{"note outside", 8, api.ErrRange, []api.Prog{{Type: api.PtNote, Off: 9999}}},
		{"TLS outside", 8, api.ErrRange, []api.Prog{{Type: api.PtTLS, Off: 9999}}},
		{"a load above", 16, api.ErrRange, []api.Prog{with(load(far-4096, 4097), func(p *api.Prog) { p.Filesz = 0; p.Align = 3 })}},
		{"a load that wraps", 16, api.ErrRange, []api.Prog{load(math.MaxUint64-4095, 4096)}},
		{"dynamic above", 16, api.ErrRange, []api.Prog{{Type: api.PtDynamic, Vaddr: far + 1}}},
		{"TLS above", 16, api.ErrRange, []api.Prog{{Type: api.PtTLS, Vaddr: far, Memsz: 1, Align: 3}}},
		{"relro above", 16, api.ErrRange, []api.Prog{{Type: api.PtRelro, Vaddr: 1, Memsz: far}}},
		{"a load with more in the file", 32, api.ErrForm, []api.Prog{{Type: api.PtLoad, Filesz: 2, Memsz: 1}}},
		{"TLS with more in the file", 32, api.ErrForm, []api.Prog{{Type: api.PtTLS, Filesz: 1, Align: 3}}},
		{"a load aligned to 3", 48, api.ErrForm, []api.Prog{{Type: api.PtLoad, Align: 3}}},
		{"a load aligned to 0", 48, api.ErrForm, []api.Prog{{Type: api.PtLoad}}},
		{"a load aligned to 2^21", 48, api.ErrForm, []api.Prog{{Type: api.PtLoad, Align: 1 << 21}}},
		{"TLS aligned to 3", 48, api.ErrForm, []api.Prog{{Type: api.PtTLS, Align: 3}}},
		{"TLS aligned to 2^21", 48, api.ErrForm, []api.Prog{{Type: api.PtTLS, Align: 1 << 21}}},
		{"a load of nothing", 40, api.ErrForm, []api.Prog{{Type: api.PtLoad, Align: 1}}},
		{"a load aligned to 2048", 48, api.ErrForm, []api.Prog{{Type: api.PtLoad, Memsz: 1, Align: 2048, Off: 1}}},
		{"a load that doesn't fit", 16, api.ErrForm, []api.Prog{{Type: api.PtLoad, Vaddr: 0x1001, Memsz: 1, Align: 4096}}},
		{"a load that doesn't fit its Align", 16, api.ErrForm, []api.Prog{{Type: api.PtLoad, Vaddr: 0x1000, Memsz: 1, Align: 8192}}},
		{"two loads in one page", 16, api.ErrForm, []api.Prog{load(0x1000, 1), {Type: api.PtNote}, load(0x1fff, 1)}},
		{"two loads, falling", 16, api.ErrForm, []api.Prog{load(0x2000, 1), load(0x1000, 1)}},
		{"a load in the end of another", 16, api.ErrForm, []api.Prog{load(0x1000, 0x1001), load(0x2000, 1)}},
	} {
		p := uint64(64 + 56*(len(c.l)-1))
		if _, err := head.Read(append(raw(64, c.l...), make([]byte, 4096)...)); !isSpot(err, p+c.at, c.err) {
			t.Errorf("P4.1: %s: %v", c.what, err)
		}
	}
}

func TestReadMay(t *testing.T) {
	const far = api.MaxAddr
	for _, l := range [][]api.Prog{
		{load(far-4096, 4096)}, {load(0, far)}, {load(0x1000, 0x1000), load(0x2000, 1)}, {load(0x1fff, 1), load(0x2000, 1)},
		{load(0, 1), {Type: api.PtTLS, Align: 1 << 20}, {Type: api.PtDynamic, Vaddr: far}},
		{{Type: api.PtLoad, Vaddr: 1 << 20, Memsz: 1, Align: 1 << 20}},
	} {
		if h, err := head.Read(append(raw(64, l...), make([]byte, 4096)...)); err != nil || !reflect.DeepEqual(h.Progs, l) {
			t.Errorf("P4.1: %+v: %v", l, err)
		}
	}
	if _, err := head.Read(raw(64, api.Prog{Type: api.PtNote})); err != api.ErrNone {
		t.Errorf("P4.1: no PtLoad: %v", err)
	}
}

func TestWrite(t *testing.T) {
	one := []api.Prog{load(0, 1)}
	for _, h := range []api.Head{{Type: 4, Progs: one}, {Type: 1, Progs: one}, {Progs: one}, {Type: -1, Progs: one}, {Type: 3}, {Type: 2, Progs: make([]api.Prog, 17)}} {
		if b, err := head.Write(h); b != nil || err != api.ErrArg {
			t.Errorf("P4.2: %+v: %v", h, err)
		}
	}
	if b, err := head.Write(api.Head{Type: 2, Progs: make([]api.Prog, 16)}); len(b) != 64+16*56 || b[56] != 16 || err != nil {
		t.Errorf("P4.2: 16 program headers: %d bytes, %v", len(b), err)
	}
	h := api.Head{Type: 2, Entry: 0x1122334455667788, Progs: []api.Prog{
		{Type: 1, Flags: 0x01020304, Off: 0x1000, Vaddr: 0x2000, Filesz: 0, Memsz: 0x88, Align: 0x1000}, {Type: 9, Vaddr: math.MaxUint64}}}
	b, err := head.Write(h)
	if err != nil || len(b) != 64+2*56 {
		t.Fatalf("P4.2: %d bytes, %v", len(b), err)
	}
	want := make([]byte, 176)
	copy(want, "\x7fELF\x02\x01\x01")
	for _, n := range [][3]uint64{{16, 2, 2}, {18, 2, 62}, {20, 4, 1}, {24, 8, h.Entry}, {32, 8, 64}, {52, 2, 64}, {54, 2, 56}, {56, 2, 2},
		{64, 4, 1}, {68, 4, 0x01020304}, {72, 8, 0x1000}, {80, 8, 0x2000}, {88, 8, 0x2000}, {104, 8, 0x88}, {112, 8, 0x1000},
		{120, 4, 9}, {136, 8, math.MaxUint64}, {144, 8, math.MaxUint64}} {
		put(want, int(n[0]), int(n[1]), n[2])
	}
	if !bytes.Equal(b, want) {
		t.Errorf("P4.2: %x, not %x", b, want)
	}
}

// TestWriteRead: Read of what Write answers and further bytes behind it is the same.
func TestWriteRead(t *testing.T) {
	h := api.Head{Type: 3, Entry: 77, Progs: []api.Prog{
		{Type: api.PtLoad, Flags: 5, Off: 0x100, Vaddr: 0x1100, Filesz: 0x20, Memsz: 0x2000, Align: 4096},
		{Type: api.PtInterp, Off: 64, Filesz: 5}, {Type: api.PtRelro, Flags: 4, Vaddr: 0x1000, Memsz: 4096, Align: 1}}}
	b, err := head.Write(h)
	if err != nil {
		t.Fatal(err)
	}
	if got, err := head.Read(append(b, make([]byte, 500)...)); err != nil || !reflect.DeepEqual(got, h) {
		t.Errorf("P4.5: %+v, %v", got, err)
	}
	b, err = head.Write(api.Head{Type: 3, Progs: []api.Prog{{Type: api.PtLoad, Memsz: 1, Align: 4096}}})
	if got, err2 := head.Read(append(b, 0)); len(b) != 120 || err != nil || err2 != nil || len(got.Progs) != 1 {
		t.Errorf("P4.5: %d bytes, %v, %v", len(b), err, err2)
	}
}

// note is the bytes of a note, its texts filled up with rubbish.
func note(name, data string, kind uint32) []byte {
	b := binary.LittleEndian.AppendUint32(nil, uint32(len(name)))
	b = binary.LittleEndian.AppendUint32(b, uint32(len(data)))
	b = binary.LittleEndian.AppendUint32(b, kind)
	for _, s := range []string{name, data} {
		b = append(b, s...)
		for range (4 - len(s)%4) % 4 {
			b = append(b, 0x5a)
		}
	}
	return b
}

func notesAt(off, filesz uint64) api.Prog {
	return api.Prog{Type: api.PtNote, Off: off, Filesz: filesz}
}

func TestNotes(t *testing.T) {
	b := []byte{9, 9, 9}
	for _, n := range [][]byte{note("GNU\x00", "abcd", 3), note("", "", math.MaxUint32), note("a\x00", "xyz", 1), note("a\x00b\x00\x00", "q", 2)} {
		b = append(b, n...)
	}
	size := uint64(len(b)) - 3
	want := []api.Note{{Name: "GNU", Type: 3, Data: []byte("abcd")}, {Type: math.MaxUint32, Data: []byte{}}, {Name: "a", Type: 1, Data: []byte("xyz")}, {Name: "a\x00b\x00", Type: 2, Data: []byte("q")}}
	for cut := range uint64(4) { // what fills the last data up may be missing
		got, err := head.Notes(b[:3+size-cut], api.Head{Progs: []api.Prog{{Type: api.PtLoad, Off: 9999}, notesAt(3, size-cut)}})
		if err != nil || !same(got, want) {
			t.Errorf("P4.3: %d bytes less: %+v, %v", cut, got, err)
		}
	}
	if got, err := head.Notes(b, api.Head{Progs: []api.Prog{notesAt(3, 20), notesAt(3, 0), notesAt(23, 12)}}); err != nil || !same(got, want[:2]) {
		t.Errorf("P4.3: of several: %+v, %v", got, err)
	}
	if got, err := head.Notes(b, api.Head{}); len(got) != 0 || err != nil {
		t.Errorf("P4.3: of none: %+v, %v", got, err)
	}
}

// same holds notes against each other; a nil list is an empty one.
func same(a, b []api.Note) bool {
	if len(a) != len(b) {
		return false
	}
	for i := range a {
		if a[i].Name != b[i].Name || a[i].Type != b[i].Type || !bytes.Equal(a[i].Data, b[i].Data) {
			return false
		}
	}
	return true
}

func TestNotesAmiss(t *testing.T) {
	whole := note("ab\x00", "12345", 1) // 12, 4 and 8 bytes, 3 of which fill up
	long := note("ab\x00", "12345", 1)
	put(long, 0, 4, math.MaxUint32)
	longData := note("ab\x00", "12345", 1)
	put(longData, 4, 4, math.MaxUint32)
	for _, c := range []struct {
		what string
		b    []byte
		off  uint64
		n    uint64
		at   uint64
		err  api.Code
	}{
		{"outside", whole, 1, 24, 1, api.ErrRange},
		{"far outside", whole, math.MaxUint64, 2, math.MaxUint64, api.ErrRange},
		{"behind", whole, 25, 0, 25, api.ErrRange},
		{"not all of the data", whole, 0, 20, 0, api.ErrRange},
		{"not all of the header", whole, 0, 11, 0, api.ErrRange},
		{"one byte behind", append(bytes.Clone(whole), 0), 0, 25, 24, api.ErrRange},
		{"not all that fills the name up", note("a\x00", "", 1), 0, 14, 0, api.ErrRange},
		{"a long name", long, 0, 24, 0, api.ErrRange},
		{"long data", longData, 0, 24, 0, api.ErrRange},
		{"a name without an end", append(bytes.Clone(whole), note("abc", "", 1)...), 0, 40, 24, api.ErrText},
		{"a short name without an end", append([]byte{7}, note("a", "", 1)...), 1, 16, 1, api.ErrText},
	} {
		if got, err := head.Notes(c.b, api.Head{Progs: []api.Prog{notesAt(c.off, c.n)}}); got != nil || !isSpot(err, c.at, c.err) {
			t.Errorf("P4.3: %s: %+v, %v", c.what, got, err)
		}
	}
}

func TestInterp(t *testing.T) {
	interp := func(b []byte, off, n uint64) (string, error) {
		return head.Interp(b, api.Head{Progs: []api.Prog{{Type: api.PtLoad}, {Type: api.PtInterp, Off: off, Filesz: n}, {Type: api.PtInterp, Off: 9999}}})
	}
	if s, err := head.Interp(nil, api.Head{Progs: []api.Prog{{Type: api.PtLoad}}}); s != "" || err != api.ErrNone {
		t.Errorf("P4.4: %q, %v", s, err)
	}
	b := []byte("xx/lib/ld\x00more")
	for _, n := range []uint64{8, 9, 12} {
		if s, err := interp(b, 2, n); s != "/lib/ld" || err != nil {
			t.Errorf("P4.4: of %d bytes: %q, %v", n, s, err)
		}
	}
	most := []byte(strings.Repeat("p", 256) + "\x00")
	if s, err := interp(most, 1, 256); len(s) != 255 || err != nil {
		t.Errorf("P4.4: 255 bytes: %q, %v", s, err)
	}
	for _, c := range []struct {
		b      []byte
		off, n uint64
		err    api.Code
	}{
		{b, 2, 7, api.ErrText}, {b, 2, 0, api.ErrText}, {b, 2, 99, api.ErrRange}, {b, 99, 0, api.ErrRange}, {b, math.MaxUint64, 2, api.ErrRange},
		{most, 0, 257, api.ErrLong}, {most, 0, 256, api.ErrText},
	} {
		if s, err := interp(c.b, c.off, c.n); s != "" || !isSpot(err, c.off, c.err) {
			t.Errorf("P4.4: at %x, %d: %q, %v", c.off, c.n, s, err)
		}
	}
}
