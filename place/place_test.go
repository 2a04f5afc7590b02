package place_test

import (
	"bytes"
	"math"
	"testing"

	"shackle/api"
	"shackle/place"
	"shackle/vmem"
)

const (
	far = api.MaxAddr
	lib = 0x20000000
)

func isSpot(err error, at uint64, code api.Code) bool {
	s, ok := err.(*api.Spot)
	return ok && s.At == at && s.Err == code
}

// object is an object of some program headers, whose file has so many bytes, none of them 0.
func object(kind, size int, l ...api.Prog) api.Object {
	b := make([]byte, size)
	for i := range b {
		b[i] = byte(i%255 + 1)
	}
	return api.Object{Head: api.Head{Type: kind, Progs: l}, Bytes: b}
}

// load is a segment.
func load(off, vaddr, filesz, memsz uint64, flags uint32) api.Prog {
	return api.Prog{Type: api.PtLoad, Off: off, Vaddr: vaddr, Filesz: filesz, Memsz: memsz, Flags: flags}
}

func relro(vaddr, memsz uint64) api.Prog {
	return api.Prog{Type: api.PtRelro, Vaddr: vaddr, Memsz: memsz}
}

// example is the chapter's object.
func example(more ...api.Prog) api.Object {
	return object(api.Shared, 0x1008, append([]api.Prog{load(0, 0, 5, 5, 5), load(0x1000, 0x2000, 8, 0x1800, 6)}, more...)...)
}

func memory(t *testing.T, quota int) *vmem.Mem {
	t.Helper()
	m, err := vmem.New(quota)
	if err != nil {
		t.Fatal(err)
	}
	return m
}

func TestCheck(t *testing.T) {
	ok := load(0, 0x1000, 0, 1, 0)
	for _, c := range []struct {
		what string
		o    api.Object
		err  error
	}{
		{"the example", example(), nil},
		{"type 0", object(0, 9, load(0, 0, 99, 1, 0)), api.ErrForm}, {"type 4", object(4, 9, ok), api.ErrForm}, {"no segments", object(3, 9), api.ErrForm},
		{"no pages", object(3, 9, load(0, 0, 99, 0, 0)), api.ErrForm}, {"none of PtLoad", object(3, 9, relro(0, 1)), api.ErrForm},
		{"more in the file", object(3, 9, load(99, 0, 2, 1, 0)), api.ErrForm}, {"more in the file, without pages", object(3, 9, ok, load(0, 0, 1, 0, 0)), api.ErrForm},
		{"outside", object(3, 9, load(0, far, 10, 10, 0)), api.ErrRange}, {"far outside", object(3, 9, load(math.MaxUint64, 0, 2, 2, 0)), api.ErrRange}, {"as much as there is", object(3, 9, load(4, 4, 5, 5, 0)), nil},
		{"above", object(3, 9, load(0, far, 0, 1, 0)), api.ErrRange}, {"above, without pages", object(3, 9, ok, load(0, far, 0, 0, 0)), api.ErrRange}, {"too much above", object(3, 9, load(0, far-4096, 0, 4097, 0)), api.ErrRange},
		{"up to the end", object(3, 9, load(0, far-4096, 0, 4096, 0)), nil}, {"wrapped", object(3, 9, load(1, math.MaxUint64-4094, 0, 4096, 0)), api.ErrRange}, {"all there is", object(3, 9, load(0, 0, 0, far, 0)), nil},
		{"unlike places", example(load(1, 0x8000, 0, 1, 0)), api.ErrAlign}, {"unlike places, without pages", object(3, 9, ok, load(1, 0x8000, 0, 0, 0)), api.ErrAlign}, {"at 2008", object(3, 0x1008, load(0, 0, 5, 5, 5), load(0x1000, 0x2008, 8, 0x1800, 6)), api.ErrAlign},
		{"unlike places in one page", object(3, 0x1008, load(0, 0, 5, 5, 5), load(4, 3, 0, 1, 0)), api.ErrAlign}, {"at 0", object(3, 0x1008, load(0, 0, 5, 5, 5), load(0x1000, 0, 8, 0x1800, 6)), api.ErrForm},
		{"in the same page", object(3, 9, load(0, 0x1000, 0, 1, 0), load(5, 0x1005, 0, 1, 0)), api.ErrForm}, {"in the last page", object(3, 9, load(0, 0x1000, 0, 0x1001, 0), load(0, 0x2000, 0, 1, 0)), api.ErrForm}, {"behind", object(3, 9, load(0, 0x1000, 0, 0x1000, 0), load(0, 0x2000, 0, 1, 0)), nil},
		{"falling", object(3, 9, load(0, 0x2000, 0, 1, 0), load(0, 0x1000, 0, 1, 0)), api.ErrForm}, {"falling, over one without pages", object(3, 9, load(0, 0x2000, 0, 1, 0), load(0, 0x9000, 0, 0, 0), load(0, 0x1000, 0, 1, 0)), api.ErrForm}, {"without pages anywhere", object(3, 9, load(0, 0x2000, 0, 1, 0), load(0, 0x1000, 0, 0, 0), load(0, 0x3000, 0, 1, 0)), nil},
		{"the first that is amiss", object(3, 9, load(0, 0x2000, 0, 1, 0), load(0, 0x1000, 0, 1, 0), load(1, 0, 99, 1, 0)), api.ErrForm},
		{"a program at 0", object(2, 9, load(0, 0, 0, 1, 0), relro(far, 9)), api.ErrRange}, {"a program at fff", object(2, 9, load(1, 1, 0, 1, 0)), api.ErrRange}, {"a program at 1000", object(2, 9, load(0, 0x1000, 0, 1, 0)), nil}, {"a program with nothing at 0", object(2, 9, load(0, 0, 0, 0, 0), load(0, 0x1000, 0, 1, 0)), nil},
		{"two relro", example(relro(0x2000, 1), relro(0x2000, 1)), api.ErrForm}, {"two TLS", example(api.Prog{Type: api.PtTLS}, api.Prog{Type: api.PtTLS}), api.ErrForm}, {"one TLS", example(api.Prog{Type: api.PtTLS, Vaddr: far, Filesz: 9}), nil},
		{"relro", example(relro(0x2000, 0x2000)), nil}, {"relro in the first", example(relro(0xfff, 1)), nil}, {"relro too long", example(relro(0x2000, 0x2001)), api.ErrForm}, {"relro between", example(relro(0x1000, 1)), api.ErrForm}, {"relro over two", example(relro(0xfff, 0x1002)), api.ErrForm},
		{"relro wrapped", example(relro(0x2001, math.MaxUint64)), api.ErrForm}, {"relro of nothing", example(relro(0x1000, 0)), nil}, {"relro of nothing, behind", example(relro(0x4000, 0)), nil}, {"relro of nothing, elsewhere", example(relro(0x4001, 0)), api.ErrForm}, {"relro of nothing, between", example(relro(0x1001, 0)), api.ErrForm},
		{"relro where no pages are", object(3, 9, load(0, 0x1000, 0, 0, 0), load(0, 0x8000, 0, 1, 0), relro(0x1000, 0)), api.ErrForm},
	} {
		if err := place.Check(c.o); err != c.err {
			t.Errorf("P15.1: %s: %v", c.what, err)
		}
		if c.err == nil {
			continue
		}
		m := memory(t, 9)
		if at, n := place.Span(c.o); at != 0 || n != 0 {
			t.Errorf("P15.2: %s: %x, %d", c.what, at, n)
		}
		if base, err := place.Map(m, c.o, lib); base != 0 || err != c.err || m.Used() != 0 {
			t.Errorf("P15.3: %s: %x, %v", c.what, base, err)
		}
		if err := place.Unmap(m, c.o, lib); err != c.err {
			t.Errorf("P15.4: %s: %v", c.what, err)
		}
		if err := place.Seal(m, c.o, lib); err != c.err {
			t.Errorf("P15.5: %s: %v", c.what, err)
		}
		if at, n := place.Relro(c.o); at != 0 || n != 0 {
			t.Errorf("P15.5: %s: %x, %d", c.what, at, n)
		}
	}
}

func TestSpan(t *testing.T) {
	for _, c := range []struct {
		o     api.Object
		begin uint64
		n     int
	}{
		{example(), 0, 4}, {object(3, 0x3000, load(0x1fff, 0x1fff, 1, 1, 0)), 0x1000, 1}, {object(3, 0x3000, load(0x1fff, 0x1fff, 1, 2, 0)), 0x1000, 2}, {object(2, 9, load(0, 0x400000, 0, 0x1000, 0), load(0, 0x800000, 0, 0x1001, 0)), 0x400000, 0x402},
		{object(3, 9, load(0, 0x5000, 0, 0, 0), load(0, 0x7000, 0, 1, 0), load(0, 0x9000, 0, 0, 0)), 0x7000, 1}, {object(3, 9, load(0, 0, 0, far, 0)), 0, 1 << 35},
	} {
		if at, n := place.Span(c.o); at != c.begin || n != c.n {
			t.Errorf("P15.2: %x, %d, not %x, %d", at, n, c.begin, c.n)
		}
	}
}

// perms are the permissions of pages from an address on; -1 of one that isn't mapped.
func perms(m *vmem.Mem, at uint64, n int) []int {
	var l []int
	for i := range n {
		p, ok := m.Perm(at + uint64(i)*api.Page)
		if !ok {
			p = -1
		}
		l = append(l, p)
	}
	return l
}

func same(a, b []int) bool {
	for i := range a {
		if a[i] != b[i] {
			return false
		}
	}
	return len(a) == len(b)
}

func TestMap(t *testing.T) {
	m := memory(t, 8)
	o := example()
	base, err := place.Map(m, o, lib)
	if base != lib || err != nil || !same(perms(m, lib, 5), []int{5, 0, 6, 6, -1}) {
		t.Fatalf("P15.3: %x, %v, %v", base, err, perms(m, lib, 5))
	}
	want := make([]byte, 4*api.Page)
	copy(want, o.Bytes[:5])
	copy(want[0x2000:], o.Bytes[0x1000:])
	if b, err := m.Peek(lib, uint64(len(want))); err != nil || !bytes.Equal(b, want) {
		t.Errorf("P15.6: other bytes, %v", err)
	}
	if base, err := place.Map(m, o, lib+0x1000); base != lib+0x4000 || err != nil {
		t.Errorf("P15.3: a second one: %x, %v", base, err)
	}
	before := m.Clone()
	if base, err := place.Map(m, o, lib); base != 0 || err != api.ErrFull {
		t.Errorf("P15.3: a third one: %x, %v", base, err)
	}
	if at, ok := before.Differ(m); ok {
		t.Errorf("P15.3: memory changed at %x beside an error", at)
	}
	if base, err := place.Map(nil, api.Object{}, lib); base != 0 || err != api.ErrArg {
		t.Errorf("P15.3: %x, %v", base, err)
	}
}

// TestMapAbove: an object that begins above 0, and flags that are no permission.
func TestMapAbove(t *testing.T) {
	m := memory(t, 8)
	o := object(api.Shared, 0x3000, load(0x1ffe, 0x7ffe, 4, 4, 0xfffffff8|4), load(0x3000, 0x9000, 0, 1, 2))
	base, err := place.Map(m, o, 5)
	if base != math.MaxUint64-0x5fff || err != nil || !same(perms(m, 0x1000, 4), []int{4, 4, 2, -1}) {
		t.Fatalf("P15.3: %x, %v, %v", base, err, perms(m, 0x1000, 4))
	}
	if b, _ := m.Peek(0x1ffd, 6); !bytes.Equal(b, append(append([]byte{0}, o.Bytes[0x1ffe:0x2002]...), 0)) {
		t.Errorf("P15.3: %v", b)
	}
	if err := place.Unmap(m, o, base); err != nil || m.Used() != 0 {
		t.Errorf("P15.4: %v, used %d", err, m.Used())
	}
	if base, err := place.Map(m, o, far); base != 0 || err != api.ErrFull {
		t.Errorf("P15.3: %x, %v", base, err)
	}
	if base, err := place.Map(m, object(api.Shared, 9, load(0, 0, 0, far, 0)), 0); base != 0 || err != api.ErrFull {
		t.Errorf("P15.3: too much for any place: %x, %v", base, err)
	}
}

func TestMapExec(t *testing.T) {
	m := memory(t, 8)
	o := object(api.Exec, 9, load(3, 0x400003, 6, 6, 7))
	if base, err := place.Map(m, o, lib); base != 0 || err != nil || !same(perms(m, 0x400000, 2), []int{7, -1}) {
		t.Fatalf("P15.3: %x, %v", base, err)
	}
	if base, err := place.Map(m, o, lib); base != 0 || !isSpot(err, 0x400000, api.ErrTaken) || m.Used() != 1 {
		t.Errorf("P15.3: %x, %v", base, err)
	}
	if base, err := place.Map(m, object(api.Exec, 9, load(0, 0x800000, 0, 0x8000, 7)), lib); base != 0 || err != api.ErrFull || m.Used() != 1 {
		t.Errorf("P15.3: %x, %v", base, err)
	}
}

func TestUnmap(t *testing.T) {
	m := memory(t, 20)
	o := example(relro(0x2000, 0x1000))
	base, err := place.Map(m, o, lib)
	if err != nil {
		t.Fatal(err)
	}
	before := m.Clone()
	if err := place.Unmap(m, o, base+0x1000); !isSpot(err, lib+0x4000, api.ErrNone) {
		t.Errorf("P15.4: %v", err)
	}
	if err := place.Unmap(m, o, base+1); err != api.ErrAlign {
		t.Errorf("P15.4: %v", err)
	}
	if err := place.Unmap(nil, api.Object{}, base); err != api.ErrArg {
		t.Errorf("P15.4: %v", err)
	}
	if at, ok := before.Differ(m); ok {
		t.Errorf("P15.4: memory changed at %x beside an error", at)
	}
	if err := place.Unmap(m, o, base); err != nil || m.Used() != 0 {
		t.Errorf("P15.4: %v, used %d", err, m.Used())
	}
}

// TestBack: Unmap behind Map leaves the memory as it was.
func TestBack(t *testing.T) {
	m := memory(t, 20)
	for _, err := range []error{m.Map(lib+0x4000, 1, 7), m.Map(lib-0x1000, 1, 6), m.Poke(lib+0x4000, []byte{1})} {
		if err != nil {
			t.Fatal(err)
		}
	}
	before := m.Clone()
	for _, o := range []api.Object{example(), example(relro(0x2000, 1)), object(api.Exec, 9, load(0, 0x400000, 9, 0x5000, 7)), object(api.Shared, 0x2000, load(0x1000, 0x1000, 5, 5, 6))} {
		base, err := place.Map(m, o, lib)
		if err != nil {
			t.Fatalf("P15.3: %v", err)
		}
		if err := place.Unmap(m, o, base); err != nil {
			t.Errorf("P15.4: %v", err)
		}
		if at, ok := before.Differ(m); ok {
			t.Errorf("P15.6: memory differs at %x", at)
		}
		if err := place.Unmap(m, o, base); err == nil {
			t.Error("P15.4: what isn't there was taken away")
		}
	}
}

func TestRelro(t *testing.T) {
	for _, c := range []struct {
		p  api.Prog
		at uint64
		n  int
	}{
		{relro(0x2000, 0x1800), 0x2000, 1}, {relro(0x2000, 0x2000), 0x2000, 2}, {relro(0x2000, 0xfff), 0, 0}, {relro(0x2800, 0x800), 0x2000, 1}, {relro(0x2fff, 0x1001), 0x2000, 2}, {relro(0x2fff, 1), 0x2000, 1}, {relro(0x2001, 0xffe), 0, 0},
		{relro(0x2000, 0), 0, 0}, {relro(0x4000, 0), 0, 0}, {relro(0x3800, 0), 0, 0}, {relro(0x800, 0x800), 0, 1}, {api.Prog{Type: api.PtNote, Vaddr: 0x2000, Memsz: 0x1000}, 0, 0},
	} {
		o := example(c.p)
		if at, n := place.Relro(o); at != c.at || n != c.n {
			t.Errorf("P15.5: Relro of %x, %x: %x, %d", c.p.Vaddr, c.p.Memsz, at, n)
		}
		m := memory(t, 8)
		base, err := place.Map(m, o, lib)
		if err != nil {
			t.Fatal(err)
		}
		want := []int{5, 0, 6, 6}
		for i := range c.n {
			want[int(c.at/api.Page)+i] = api.R
		}
		if err := place.Seal(m, o, base); err != nil || !same(perms(m, lib, 4), want) {
			t.Errorf("P15.5: Seal of %x, %x: %v, %v", c.p.Vaddr, c.p.Memsz, perms(m, lib, 4), err)
		}
		if err := place.Seal(m, o, base+0x10000); c.n == 0 && err != nil || c.n > 0 && !isSpot(err, base+0x10000+c.at, api.ErrNone) {
			t.Errorf("P15.5: Seal of what isn't there: %v", err)
		}
	}
	if err := place.Seal(nil, api.Object{}, 0); err != api.ErrArg {
		t.Errorf("P15.5: %v", err)
	}
}
