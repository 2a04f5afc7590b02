package vmem_test

import (
	"bytes"
	"math"
	"reflect"
	"testing"

	"shackle/api"
	"shackle/vmem"
)

const (
	rw  = api.R | api.W
	top = api.MaxAddr - api.Page // the last page
)

func isSpot(err error, at uint64, code api.Code) bool {
	s, ok := err.(*api.Spot)
	return ok && s.At == at && s.Err == code
}

func memory(t *testing.T, quota int) *vmem.Mem {
	t.Helper()
	m, err := vmem.New(quota)
	if err != nil {
		t.Fatal(err)
	}
	return m
}

// must fails the test at an error of what only prepares it.
func must(t *testing.T, errs ...error) {
	t.Helper()
	for _, err := range errs {
		if err != nil {
			t.Fatal(err)
		}
	}
}

func TestNew(t *testing.T) {
	for _, quota := range []int{-1, math.MinInt, api.MaxPages + 1, math.MaxInt} {
		if m, err := vmem.New(quota); m != nil || err != api.ErrArg {
			t.Errorf("P2.1: New(%d): %v, %v", quota, m, err)
		}
	}
	for _, quota := range []int{0, 1, api.MaxPages} {
		if m := memory(t, quota); m.Quota() != quota || m.Used() != 0 || len(m.Spans()) != 0 {
			t.Errorf("P2.1: New(%d): quota %d, used %d", quota, m.Quota(), m.Used())
		}
	}
	m := memory(t, 4)
	must(t, m.Map(0x1000, 3, 0), m.Unmap(0x2000, 1))
	if m.Used() != 2 || m.Quota() != 4 {
		t.Errorf("P2.1: used %d of %d", m.Used(), m.Quota())
	}
}

func TestExamples(t *testing.T) {
	m := memory(t, 4)
	must(t, m.Map(0x1000, 2, rw))
	if err := m.Map(0x2000, 1, api.R); !isSpot(err, 0x2000, api.ErrTaken) {
		t.Errorf("P2.2: %v", err)
	}
	if err := m.Map(0x10000, 3, api.R); err != api.ErrFull || m.Used() != 2 {
		t.Errorf("P2.2: %v, used %d", err, m.Used())
	}
	must(t, m.Write(0x1fff, []byte{7, 8}))
	if b, err := m.Read(0x1fff, 2); err != nil || !bytes.Equal(b, []byte{7, 8}) {
		t.Errorf("P2.4: %v, %v", b, err)
	}
	if _, err := m.Read(0x2fff, 2); !isSpot(err, 0x3000, api.ErrRead) {
		t.Errorf("P2.4: %v", err)
	}
	if err := m.Write(0x3000, []byte{1}); !isSpot(err, 0x3000, api.ErrWrite) {
		t.Errorf("P2.4: %v", err)
	}
	if _, err := m.Fetch(0x1000, 1); !isSpot(err, 0x1000, api.ErrFetch) {
		t.Errorf("P2.4: %v", err)
	}
	must(t, m.Protect(0x2000, 1, api.R))
	if err := m.Write(0x1fff, []byte{1, 1}); !isSpot(err, 0x2000, api.ErrWrite) {
		t.Errorf("P2.4: %v", err)
	}
	if b, _ := m.Read(0x1fff, 1); b[0] != 7 {
		t.Errorf("P2.4: something was written beside an error: %v", b)
	}
	must(t, m.Poke(0x2000, []byte{5}))
	if l := m.Spans(); !reflect.DeepEqual(l, []api.Span{{Addr: 0x1000, Pages: 1, Perm: rw}, {Addr: 0x2000, Pages: 1, Perm: api.R}}) {
		t.Errorf("P2.6: %v", l)
	}
	for _, from := range []uint64{0, 0x1001} {
		if a, err := m.Find(from, 1); a != 0x3000 || err != nil {
			t.Errorf("P2.3: Find(%x): %x, %v", from, a, err)
		}
	}
	must(t, m.Unmap(0x1000, 2))
	if a, err := m.Find(0, 1); a != 0x1000 || err != nil || m.Used() != 0 {
		t.Errorf("P2.3: %x, %v; used %d", a, err, m.Used())
	}
}

// TestPages: what is amiss with the pages of Map, Unmap, Protect, in its order.
func TestPages(t *testing.T) {
	for _, c := range []struct {
		addr        uint64
		pages, perm int
		err         error
	}{
		{0x1001, 0, 0, api.ErrArg}, {0, -1, 0, api.ErrArg}, {0x1001, 1, 8, api.ErrArg}, {0, 1, -1, api.ErrArg},
		{0x1001, 1, 7, api.ErrAlign}, {1, 1, 0, api.ErrAlign}, {math.MaxUint64, 1, 0, api.ErrAlign},
		{0, 1, 0, api.ErrRange}, {0, 5, 7, api.ErrRange}, {api.MaxAddr, 1, 0, api.ErrRange}, {top, 2, 0, api.ErrRange},
		{0x1000, 1 << 35, 0, api.ErrRange}, {0x1000, math.MaxInt, 0, api.ErrRange}, {1 << 63, 1, 0, api.ErrRange},
		{math.MaxUint64 - 0xfff, 2, 0, api.ErrRange},
	} {
		m := memory(t, 8)
		must(t, m.Map(0x1000, 1, rw))
		if err := m.Map(c.addr, c.pages, c.perm); err != c.err {
			t.Errorf("P2.2: Map(%x, %d, %d): %v", c.addr, c.pages, c.perm, err)
		}
		if err := m.Protect(c.addr, c.pages, c.perm); err != c.err {
			t.Errorf("P2.2: Protect(%x, %d, %d): %v", c.addr, c.pages, c.perm, err)
		}
		if perm := c.perm; perm >= 0 && perm <= 7 {
			if err := m.Unmap(c.addr, c.pages); err != c.err {
				t.Errorf("P2.2: Unmap(%x, %d): %v", c.addr, c.pages, err)
			}
		}
		if m.Used() != 1 {
			t.Errorf("P2.2: used %d beside an error", m.Used())
		}
	}
}

func TestMap(t *testing.T) {
	m := memory(t, 3)
	must(t, m.Map(0x5000, 1, 5), m.Map(top, 1, 0))
	if err := m.Map(0x3000, 9, 0); !isSpot(err, 0x5000, api.ErrTaken) {
		t.Errorf("P2.2: taken goes ahead of full: %v", err)
	}
	if err := m.Map(0x5000, 9, 0); !isSpot(err, 0x5000, api.ErrTaken) {
		t.Errorf("P2.2: the first of many: %v", err)
	}
	if err := m.Map(0x1000, 4, 0); err != api.ErrFull {
		t.Errorf("P2.2: right ahead of one that is taken: %v", err)
	}
	if err := m.Map(0x1000, 1<<35-1, 0); !isSpot(err, 0x5000, api.ErrTaken) {
		t.Errorf("P2.2: all there are: %v", err)
	}
	if err := m.Map(0x6000, 1<<35-6, 0); !isSpot(err, top, api.ErrTaken) {
		t.Errorf("P2.2: all behind: %v", err)
	}
	if err := m.Map(0x6000, 2, 0); err != api.ErrFull || m.Used() != 2 {
		t.Errorf("P2.2: %v, used %d", err, m.Used())
	}
	if err := m.Map(0x6000, 1<<35-7, 0); err != api.ErrFull {
		t.Errorf("P2.2: %v", err)
	}
	must(t, m.Map(0x6000, 1, api.R))
	if b, err := m.Read(0x6000, api.Page); err != nil || !bytes.Equal(b, make([]byte, api.Page)) {
		t.Errorf("P2.2: a new page isn't all 0: %v", err)
	}
	must(t, m.Poke(0x6000, []byte{1}), m.Unmap(0x6000, 1), m.Map(0x6000, 1, api.R))
	if b, err := m.Read(0x6000, 1); err != nil || b[0] != 0 {
		t.Errorf("P2.2: a page mapped again isn't all 0: %v, %v", b, err)
	}
}

func TestUnmapProtect(t *testing.T) {
	m := memory(t, 8)
	must(t, m.Map(0x1000, 2, rw), m.Map(0x4000, 1, rw), m.Poke(0x1000, []byte{9}))
	for _, pages := range []int{3, 4, 1 << 30} {
		if err := m.Unmap(0x1000, pages); !isSpot(err, 0x3000, api.ErrNone) {
			t.Errorf("P2.2: Unmap of %d: %v", pages, err)
		}
		if err := m.Protect(0x1000, pages, 0); !isSpot(err, 0x3000, api.ErrNone) {
			t.Errorf("P2.2: Protect of %d: %v", pages, err)
		}
	}
	if err := m.Unmap(0x3000, 2); !isSpot(err, 0x3000, api.ErrNone) {
		t.Errorf("P2.2: %v", err)
	}
	if p, ok := m.Perm(0x1000); p != rw || !ok || m.Used() != 3 {
		t.Errorf("P2.2: something changed beside an error: %d, %v, used %d", p, ok, m.Used())
	}
	must(t, m.Protect(0x1000, 2, api.R))
	if b, err := m.Read(0x1000, 1); err != nil || b[0] != 9 {
		t.Errorf("P2.2: Protect lost a byte: %v, %v", b, err)
	}
	must(t, m.Unmap(0x1000, 1))
	if _, ok := m.Perm(0x1000); ok || m.Used() != 2 {
		t.Errorf("P2.2: still mapped, used %d", m.Used())
	}
	if p, ok := m.Perm(0x2fff); !ok || p != api.R {
		t.Errorf("P2.2: its neighbour: %d, %v", p, ok)
	}
}

func TestFind(t *testing.T) {
	m := memory(t, 8)
	must(t, m.Map(0x3000, 1, 0), m.Map(0x6000, 2, 7), m.Map(top-api.Page, 1, 0))
	for _, c := range []struct {
		from  uint64
		pages int
		want  uint64
		err   error
	}{
		{0, 1, 0x1000, nil}, {0, 2, 0x1000, nil}, {0, 3, 0x8000, nil}, {0x1001, 1, 0x2000, nil}, {0x1001, 2, 0x4000, nil},
		{0x3000, 2, 0x4000, nil}, {0x5000, 1, 0x5000, nil}, {0x5000, 2, 0x8000, nil}, {0x6fff, 1, 0x8000, nil},
		{0, 1000, 0x8000, nil}, {top - 0xfff, 1, top, nil}, {top, 1, top, nil}, {top, 2, 0, api.ErrFull}, {top + 1, 1, 0, api.ErrFull},
		{top - 2*api.Page, 2, 0, api.ErrFull}, {0, math.MaxInt, 0, api.ErrFull}, {math.MaxUint64, 1, 0, api.ErrFull}, {api.MaxAddr, 1, 0, api.ErrFull},
		{0, 0, 0, api.ErrArg}, {math.MaxUint64, -1, 0, api.ErrArg},
	} {
		if a, err := m.Find(c.from, c.pages); a != c.want || err != c.err {
			t.Errorf("P2.3: Find(%x, %d): %x, %v", c.from, c.pages, a, err)
		}
	}
	if a, err := memory(t, 0).Find(0, 1<<35-1); a != 0x1000 || err != nil {
		t.Errorf("P2.3: quota isn't looked at: %x, %v", a, err)
	}
}

// TestFindMap: what Find answers can be mapped.
func TestFindMap(t *testing.T) {
	m := memory(t, 200)
	for i := range 30 {
		a, err := m.Find(uint64(i%5)*0x1800, i%7+1)
		if err != nil {
			t.Fatal(err)
		}
		if err := m.Map(a, i%7+1, i%8); err != nil {
			t.Fatalf("P2.8: Find told %x: %v", a, err)
		}
		if i%3 == 0 {
			must(t, m.Unmap(a, 1))
		}
	}
}

func TestAccess(t *testing.T) {
	m := memory(t, 16)
	for perm := range 8 {
		must(t, m.Map(0x1000*uint64(2*perm+1), 1, perm))
	}
	for perm := range 8 {
		a := 0x1000 * uint64(2*perm+1)
		_, err := m.Read(a+7, 3)
		if perm&api.R != 0 && err != nil || perm&api.R == 0 && !isSpot(err, a+7, api.ErrRead) {
			t.Errorf("P2.4: Read with %d: %v", perm, err)
		}
		_, err = m.Fetch(a+7, 3)
		if perm&api.X != 0 && err != nil || perm&api.X == 0 && !isSpot(err, a+7, api.ErrFetch) {
			t.Errorf("P2.4: Fetch with %d: %v", perm, err)
		}
		err = m.Write(a+7, []byte{1, 2, 3})
		if perm&api.W != 0 && err != nil || perm&api.W == 0 && !isSpot(err, a+7, api.ErrWrite) {
			t.Errorf("P2.4: Write with %d: %v", perm, err)
		}
		if err := m.Poke(a, []byte{4}); err != nil {
			t.Errorf("P2.5: Poke with %d: %v", perm, err)
		}
		if b, err := m.Peek(a, 1); err != nil || b[0] != 4 {
			t.Errorf("P2.5: Peek with %d: %v, %v", perm, b, err)
		}
		if err := m.Poke(a+0xffe, []byte{1, 2, 3}); !isSpot(err, a+0x1000, api.ErrNone) {
			t.Errorf("P2.5: Poke over the end: %v", err)
		}
		if b, err := m.Peek(a+0xffe, 3); b != nil || !isSpot(err, a+0x1000, api.ErrNone) {
			t.Errorf("P2.5: Peek over the end: %v, %v", b, err)
		}
		if b, _ := m.Peek(a+0xffe, 2); !bytes.Equal(b, []byte{0, 0}) {
			t.Errorf("P2.5: something was written beside an error: %v", b)
		}
	}
}

func TestNoBytes(t *testing.T) {
	m := memory(t, 1)
	for _, addr := range []uint64{0, 0x1000, math.MaxUint64} {
		for _, f := range []func(uint64, uint64) ([]byte, error){m.Read, m.Fetch, m.Peek} {
			if b, err := f(addr, 0); len(b) != 0 || err != nil {
				t.Errorf("P2.4: of 0 bytes at %x: %v, %v", addr, b, err)
			}
		}
		if err := m.Write(addr, nil); err != nil {
			t.Errorf("P2.4: %v", err)
		}
		if err := m.Poke(addr, nil); err != nil {
			t.Errorf("P2.5: %v", err)
		}
	}
}

func TestFarBytes(t *testing.T) {
	m := memory(t, 4)
	must(t, m.Map(0x1000, 2, rw), m.Map(top, 1, 7))
	if _, err := m.Read(0x1800, math.MaxUint64); !isSpot(err, 0x3000, api.ErrRead) {
		t.Errorf("P2.4: %v", err)
	}
	if _, err := m.Peek(math.MaxUint64, 2); !isSpot(err, math.MaxUint64, api.ErrNone) {
		t.Errorf("P2.5: %v", err)
	}
	if _, err := m.Fetch(top, 0x1001); !isSpot(err, api.MaxAddr, api.ErrFetch) {
		t.Errorf("P2.4: %v", err)
	}
}

// TestCopies: neither what was handed in nor what was answered is the memory itself.
func TestCopies(t *testing.T) {
	m := memory(t, 1)
	must(t, m.Map(0x1000, 1, 7))
	b := []byte{1, 2, 3}
	must(t, m.Write(0x1000, b))
	b[0] = 9
	got, err := m.Read(0x1000, 3)
	must(t, err)
	got[1] = 9
	if now, _ := m.Peek(0x1000, 3); !bytes.Equal(now, []byte{1, 2, 3}) {
		t.Errorf("P2.4: %v", now)
	}
}

func TestPermSpans(t *testing.T) {
	m := memory(t, 20)
	must(t, m.Map(0x9000, 2, 5), m.Map(0x4000, 1, 0), m.Map(0x5000, 3, 5), m.Map(0x8000, 1, 5), m.Map(top, 1, 6))
	want := []api.Span{{Addr: 0x4000, Pages: 1, Perm: 0}, {Addr: 0x5000, Pages: 6, Perm: 5}, {Addr: top, Pages: 1, Perm: 6}}
	if l := m.Spans(); !reflect.DeepEqual(l, want) {
		t.Errorf("P2.6: %v", l)
	}
	first := memory(t, 9)
	must(t, first.Map(0x1000, 3, 6), first.Map(0x4000, 2, 6), first.Map(0x7000, 1, 6))
	if l := first.Spans(); !reflect.DeepEqual(l, []api.Span{{Addr: 0x1000, Pages: 5, Perm: 6}, {Addr: 0x7000, Pages: 1, Perm: 6}}) {
		t.Errorf("P2.6: %v", l)
	}
	for addr, want := range map[uint64]int{0x4000: 0, 0x4fff: 0, 0x5000: 5, 0xafff: 5, top + 5: 6} {
		if p, ok := m.Perm(addr); p != want || !ok {
			t.Errorf("P2.6: Perm(%x): %d, %v", addr, p, ok)
		}
	}
	for _, addr := range []uint64{0, 0x3fff, 0xb000, api.MaxAddr, math.MaxUint64} {
		if p, ok := m.Perm(addr); p != 0 || ok {
			t.Errorf("P2.6: Perm(%x): %d, %v", addr, p, ok)
		}
	}
}

func TestClone(t *testing.T) {
	m := memory(t, 5)
	must(t, m.Map(0x1000, 2, rw), m.Write(0x1000, []byte{1}))
	c := m.Clone()
	if at, ok := m.Differ(c); at != 0 || ok || c.Quota() != 5 || c.Used() != 2 {
		t.Fatalf("P2.7: %x, %v", at, ok)
	}
	must(t, m.Write(0x1001, []byte{2}), c.Write(0x1002, []byte{3}), c.Protect(0x2000, 1, 0), m.Map(0x7000, 1, 0))
	if b, _ := m.Peek(0x1000, 3); !bytes.Equal(b, []byte{1, 2, 0}) {
		t.Errorf("P2.7: %v", b)
	}
	if b, _ := c.Peek(0x1000, 3); !bytes.Equal(b, []byte{1, 0, 3}) {
		t.Errorf("P2.7: %v", b)
	}
	if p, _ := m.Perm(0x2000); p != rw || c.Used() != 2 || m.Used() != 3 {
		t.Errorf("P2.7: perm %d, used %d and %d", p, c.Used(), m.Used())
	}
}

func TestDiffer(t *testing.T) {
	base := memory(t, 9)
	must(t, base.Map(0x2000, 3, rw))
	for _, c := range []struct {
		what string
		do   func(*vmem.Mem) error
		at   uint64
	}{
		{"a byte", func(m *vmem.Mem) error { return m.Poke(0x3456, []byte{1}) }, 0x3456},
		{"a permission", func(m *vmem.Mem) error { return m.Protect(0x3000, 1, 7) }, 0x3000},
		{"a page less", func(m *vmem.Mem) error { return m.Unmap(0x4000, 1) }, 0x4000},
		{"a page more", func(m *vmem.Mem) error { return m.Map(0x1000, 1, 0) }, 0x1000},
		{"a byte, and pages more", func(m *vmem.Mem) error { m.Poke(0x4001, []byte{1}); return m.Map(0x9000, 1, 0) }, 0x4001},
		{"two bytes", func(m *vmem.Mem) error { m.Poke(0x2fff, []byte{1}); return m.Poke(0x4000, []byte{1}) }, 0x2fff},
		{"a permission ahead of a byte", func(m *vmem.Mem) error { m.Poke(0x2005, []byte{1}); return m.Protect(0x2000, 1, 0) }, 0x2000},
	} {
		m := base.Clone()
		must(t, c.do(m))
		for _, pair := range [][2]*vmem.Mem{{base, m}, {m, base}} {
			if at, ok := pair[0].Differ(pair[1]); at != c.at || !ok {
				t.Errorf("P2.7: %s: %x, %v", c.what, at, ok)
			}
		}
	}
	if at, ok := base.Differ(nil); at != 0x2000 || !ok {
		t.Errorf("P2.7: a nil one: %x, %v", at, ok)
	}
	if at, ok := memory(t, 3).Differ(nil); at != 0 || ok {
		t.Errorf("P2.7: two without pages: %x, %v", at, ok)
	}
	if at, ok := memory(t, 3).Differ(memory(t, 4)); at != 0 || ok {
		t.Errorf("P2.7: two without pages: %x, %v", at, ok)
	}
}

// TestWritten: what was written is read until it is written again; no other byte changes; Used is what Spans tells.
func TestWritten(t *testing.T) {
	m := memory(t, 8)
	must(t, m.Map(0x1000, 4, rw))
	want := make([]byte, 4*api.Page)
	for i := range 200 {
		off := i * 977 % (len(want) - 5000)
		b := bytes.Repeat([]byte{byte(i + 1)}, i*31%5000)
		copy(want[off:], b)
		must(t, m.Write(0x1000+uint64(off), b))
	}
	if b, err := m.Read(0x1000, uint64(len(want))); err != nil || !bytes.Equal(b, want) {
		t.Errorf("P2.8: other bytes, %v", err)
	}
	pages := 0
	for _, s := range m.Spans() {
		pages += s.Pages
	}
	if pages != m.Used() || m.Used() > m.Quota() {
		t.Errorf("P2.8: %d pages, used %d", pages, m.Used())
	}
}
