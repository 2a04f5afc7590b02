package tls_test

import (
	"bytes"
	"encoding/binary"
	"math"
	"slices"
	"testing"

	"shackle/api"
	"shackle/tls"
	"shackle/vmem"
)

func memory(t *testing.T, quota int) *vmem.Mem {
	t.Helper()
	m, err := vmem.New(quota)
	if err != nil {
		t.Fatal(err)
	}
	return m
}

func store(t *testing.T, l ...api.Module) *tls.Store {
	t.Helper()
	s, err := tls.New(l)
	if err != nil {
		t.Fatal(err)
	}
	return s
}

// thread is a new thread and its pointer.
func thread(t *testing.T, s *tls.Store, m *vmem.Mem) (int, uint64) {
	t.Helper()
	n, err := s.Thread(m)
	if err != nil {
		t.Fatal(err)
	}
	p, err := s.Pointer(n)
	if err != nil {
		t.Fatal(err)
	}
	return n, p
}

func TestLayout(t *testing.T) {
	for _, c := range []struct {
		l        []api.Module
		want     []uint64
		last, up uint64
	}{
		{nil, nil, 0, 1}, {[]api.Module{{Size: 4, Align: 4}, {Size: 10, Align: 16}}, []uint64{4, 16}, 16, 16}, {[]api.Module{{}}, []uint64{0}, 0, 1}, {[]api.Module{{Size: 5}, {Size: 1, Align: 1}}, []uint64{5, 6}, 6, 1},
		{[]api.Module{{Size: 10, Align: 16}, {Size: 4, Align: 4}}, []uint64{16, 20}, 20, 16}, {[]api.Module{{Size: 1, Align: 4096}, {Size: 0, Align: 2}}, []uint64{4096, 4096}, 4096, 4096},
		{[]api.Module{{Size: 1 << 20}}, []uint64{1 << 20}, 1 << 20, 1}, {[]api.Module{{Size: 1<<20 - 4095, Align: 4096}}, []uint64{1 << 20}, 1 << 20, 4096}, {[]api.Module{{Size: 3, Image: []byte{1, 2, 3}}}, []uint64{3}, 3, 1},
	} {
		l, last, up, err := tls.Layout(c.l)
		if !slices.Equal(l, c.want) || last != c.last || up != c.up || err != nil {
			t.Errorf("P18.1: %+v: %d, %d, %d, %v", c.l, l, last, up, err)
		}
	}
	for _, l := range [][]api.Module{
		{{Size: 1, Align: 3}}, {{Size: 1}, {Size: 1, Align: 8192}}, {{Align: 1 << 63}}, {{Align: math.MaxUint64}}, {{Size: 2, Image: []byte{1, 2, 3}}}, {{Size: 1<<20 + 1}}, {{Size: math.MaxUint64, Align: 16}},
		{{Size: 1 << 20}, {Size: 1}}, {{Size: 1 << 20}, {Size: math.MaxUint64}}, {{Size: 1<<20 - 1}, {Size: 2, Align: 4096}}, {{Size: 1<<20 - 7}, {Size: 7}, {Size: 1, Align: 1}},
	} {
		offsets, last, up, err := tls.Layout(l)
		if offsets != nil || last != 0 || up != 0 || err != api.ErrTLS {
			t.Errorf("P18.1: %+v: %d, %d, %d, %v", l, offsets, last, up, err)
		}
		if s, err := tls.New(l); s != nil || err != api.ErrTLS {
			t.Errorf("P18.2: %+v: %v", l, err)
		}
		if n, err := store(t).Add(l[len(l)-1]); len(l) == 1 && (n != 0 || err != api.ErrTLS) {
			t.Errorf("P18.5: Add(%+v): %d, %v", l[0], n, err)
		}
	}
}

func TestExamples(t *testing.T) {
	m := memory(t, 10)
	s := store(t, api.Module{Size: 4, Align: 4}, api.Module{Size: 10, Align: 16})
	n, p := thread(t, s, m)
	if n != 0 || p != 0x40000040 {
		t.Errorf("P18.3: %d, %x", n, p)
	}
	if a, err := s.Addr(m, 0, 1, 0); a != 0x4000003c || err != nil {
		t.Errorf("P18.6: %x, %v", a, err)
	}
	if n, err := s.Add(api.Module{Size: 8}); n != 3 || err != nil {
		t.Errorf("P18.5: %d, %v", n, err)
	}
	for _, c := range [][2]uint64{{2, 0x40001002}, {0, 0x40001000}, {math.MaxUint64, 0x40000fff}, {0x5000, 0x40006000}} {
		if a, err := s.Addr(m, 0, 3, c[0]); a != c[1] || err != nil {
			t.Errorf("P18.6: %x, %v", a, err)
		}
	}
	for i, want := range []error{nil, api.ErrNone} {
		if err := s.Drop(3); err != want {
			t.Errorf("P18.5: Drop for the time %d: %v", i+1, err)
		}
	}
	if err := s.Drop(1); err != api.ErrArg {
		t.Errorf("P18.5: %v", err)
	}
}

// TestThread: how many pages a thread takes, where its pointer lies, and what is laid.
func TestThread(t *testing.T) {
	image := bytes.Repeat([]byte{7}, 5000)
	for _, c := range []struct {
		l     []api.Module
		pages int
		above uint64 // of the pointer, above its block's beginning
	}{
		{nil, 1, 0}, {[]api.Module{{Size: 1}}, 1, 64}, {[]api.Module{{Size: 64}}, 1, 64}, {[]api.Module{{Size: 65}}, 1, 128}, {[]api.Module{{Size: 4032}}, 1, 4032}, {[]api.Module{{Size: 4033}}, 2, 4096}, {[]api.Module{{Size: 8192 - 64}}, 2, 8192 - 64},
		{[]api.Module{{Size: 1, Align: 128}, {Size: 1}}, 1, 256}, {[]api.Module{{Size: 1, Align: 4096}}, 2, 4096}, {[]api.Module{{Size: 1, Align: 4096}, {Size: 1}}, 3, 8192}, {[]api.Module{{Size: 6000, Image: image}, {Size: 3, Image: []byte{1, 2}, Align: 8}}, 2, 6016},
	} {
		m := memory(t, 100)
		if err := m.Map(api.TLSBase, 1, 0); err != nil {
			t.Fatal(err)
		}
		s := store(t, c.l...)
		_, p := thread(t, s, m)
		begin := uint64(api.TLSBase + api.Page)
		spans := m.Spans()
		if len(spans) != 2 || spans[1] != (api.Span{Addr: begin, Pages: c.pages, Perm: api.R | api.W}) || p != begin+c.above {
			t.Fatalf("P18.3: %d modules: %x, %x", len(c.l), spans, p)
		}
		want := make([]byte, c.pages*api.Page)
		binary.LittleEndian.PutUint64(want[c.above:], p)
		for i, x := range c.l {
			off, err := s.Offset(i + 1)
			if err != nil {
				t.Fatal(err)
			}
			copy(want[c.above-off:], x.Image)
			if a, err := s.Addr(m, 0, i+1, 5); a != p-off+5 || err != nil {
				t.Errorf("P18.6: %x, %v", a, err)
			}
		}
		if b, err := m.Peek(begin, uint64(len(want))); err != nil || !bytes.Equal(b, want) {
			t.Errorf("P18.3: other bytes, %v", err)
		}
	}
}

func TestFull(t *testing.T) {
	m := memory(t, 2)
	s := store(t, api.Module{Size: 4000, Align: 64})
	thread(t, s, m)
	if _, err := s.Add(api.Module{Size: 4097}); err != nil {
		t.Fatal(err)
	}
	thread(t, s, m)
	before := m.Clone()
	if n, err := s.Thread(m); n != 0 || err != api.ErrFull {
		t.Errorf("P18.3: %d, %v", n, err)
	}
	if a, err := s.Addr(m, 0, 2, 0); a != 0 || err != api.ErrFull {
		t.Errorf("P18.6: %x, %v", a, err)
	}
	if _, err := s.Pointer(2); err != api.ErrArg {
		t.Errorf("P18.3: something changed beside an error: %v", err)
	}
	if at, ok := before.Differ(m); ok {
		t.Errorf("P18.3: memory changed at %x beside an error", at)
	}
	large := memory(t, 4)
	thread(t, s, large)
	if a, err := s.Addr(large, 2, 2, 1); a != 0x40001001 || err != nil || large.Used() != 3 {
		t.Errorf("P18.6: %x, %v, used %d", a, err, large.Used())
	}
}

func TestNumbers(t *testing.T) {
	m := memory(t, 20)
	s := store(t, api.Module{Size: 4}, api.Module{Size: 4})
	thread(t, s, m)
	for i := range 3 {
		if n, err := s.Add(api.Module{Size: 8}); n != 3+i || err != nil || s.Modules() != n {
			t.Errorf("P18.5: %d, %v, %d modules", n, err, s.Modules())
		}
		if err := s.Drop(3 + i); err != nil {
			t.Errorf("P18.5: %v", err)
		}
	}
	if s.Modules() != 5 || store(t).Modules() != 0 {
		t.Errorf("P18.4: %d modules", s.Modules())
	}
	for _, n := range []int{-1, 0, 1, 2, 6, math.MaxInt, math.MinInt} {
		if err := s.Drop(n); err != api.ErrArg {
			t.Errorf("P18.5: Drop(%d): %v", n, err)
		}
	}
	for n, want := range map[int]error{-1: api.ErrArg, 0: api.ErrArg, 3: api.ErrArg, 6: api.ErrArg, 1: nil, 2: nil} {
		off, err := s.Offset(n)
		if err != want || err == nil && off != uint64(4*n) || err != nil && off != 0 {
			t.Errorf("P18.4: Offset(%d): %d, %v", n, off, err)
		}
	}
	for _, n := range []int{-1, 1, math.MaxInt} {
		if p, err := s.Pointer(n); p != 0 || err != api.ErrArg {
			t.Errorf("P18.4: Pointer(%d): %x, %v", n, p, err)
		}
	}
	if n, err := s.Thread(nil); n != 0 || err != api.ErrArg {
		t.Errorf("P18.3: %d, %v", n, err)
	}
}

func TestAddr(t *testing.T) {
	m := memory(t, 20)
	s := store(t, api.Module{Size: 4})
	thread(t, s, m)
	for _, x := range []api.Module{{Size: 8, Image: []byte{5}}, {}} {
		if _, err := s.Add(x); err != nil {
			t.Fatal(err)
		}
	}
	for _, c := range []struct {
		m              *vmem.Mem
		thread, module int
	}{{nil, 0, 1}, {m, -1, 1}, {m, 1, 1}, {m, 0, 0}, {m, 0, -1}, {m, 0, 4}, {m, math.MaxInt, math.MinInt}} {
		if a, err := s.Addr(c.m, c.thread, c.module, 0); a != 0 || err != api.ErrArg {
			t.Errorf("P18.6: thread %d, module %d: %x, %v", c.thread, c.module, a, err)
		}
	}
	used := m.Used()
	empty, err := s.Addr(m, 0, 3, 0)
	if err != nil || m.Used() != used+1 {
		t.Errorf("P18.6: a module of no bytes: %x, %v, used %d", empty, err, m.Used())
	}
	a, err := s.Addr(m, 0, 2, 0)
	if err != nil || m.Used() != used+2 {
		t.Fatalf("P18.6: %x, %v", a, err)
	}
	if p, ok := m.Perm(a); p != api.R|api.W || !ok {
		t.Errorf("P18.6: permission %d", p)
	}
	if b, _ := m.Peek(a, 8); !bytes.Equal(b, []byte{5, 0, 0, 0, 0, 0, 0, 0}) {
		t.Errorf("P18.6: %v", b)
	}
	if err := m.Write(a, []byte{6}); err != nil {
		t.Fatal(err)
	}
	if again, err := s.Addr(m, 0, 2, 3); again != a+3 || err != nil || m.Used() != used+2 {
		t.Errorf("P18.6: again: %x, %v", again, err)
	}
	if err := s.Drop(2); err != nil {
		t.Fatal(err)
	}
	if x, err := s.Addr(m, 0, 2, 0); x != 0 || err != api.ErrNone {
		t.Errorf("P18.6: a dropped one: %x, %v", x, err)
	}
	if b, err := m.Peek(a, 1); err != nil || b[0] != 6 {
		t.Errorf("P18.6: its block is gone: %v, %v", b, err)
	}
	if x, err := s.Addr(m, 0, 1, math.MaxUint64); err != nil || x != 0x40000040-5 {
		t.Errorf("P18.6: modulo 2^64: %x, %v", x, err)
	}
}

// TestClone: from a clone on neither store sees what is done to the other.
func TestClone(t *testing.T) {
	m := memory(t, 40)
	s := store(t, api.Module{Size: 4})
	thread(t, s, m)
	for range 3 {
		if _, err := s.Add(api.Module{Size: 8}); err != nil {
			t.Fatal(err)
		}
	}
	block, _ := s.Addr(m, 0, 2, 0)
	c := s.Clone()
	if a, err := c.Addr(m, 0, 2, 0); a != block || err != nil || c.Modules() != 4 {
		t.Fatalf("P18.6: %x, %v", a, err)
	}
	if err := c.Drop(2); err != nil {
		t.Fatal(err)
	}
	thread(t, c, m)
	later, _ := c.Addr(m, 0, 3, 0)
	if n, err := c.Add(api.Module{Size: 1}); n != 5 || err != nil {
		t.Errorf("P18.6: %d, %v", n, err)
	}
	if a, err := s.Addr(m, 0, 2, 0); a != block || err != nil || s.Modules() != 4 {
		t.Errorf("P18.6: %x, %v, %d modules", a, err, s.Modules())
	}
	if _, err := s.Pointer(1); err != api.ErrArg {
		t.Errorf("P18.6: a thread of the clone: %v", err)
	}
	if a, err := s.Addr(m, 0, 3, 0); a == later || err != nil {
		t.Errorf("P18.6: a block of the clone: %x, %v", a, err)
	}
	if err := s.Drop(4); err != nil {
		t.Fatal(err)
	}
	if _, err := c.Addr(m, 0, 4, 0); err != nil {
		t.Errorf("P18.6: dropped in the clone, too: %v", err)
	}
}

// TestCopies: what is handed in is not kept.
func TestCopies(t *testing.T) {
	m := memory(t, 10)
	first, second := []byte{1}, []byte{2}
	l := []api.Module{{Size: 4, Image: first}}
	s := store(t, l...)
	if _, err := s.Add(api.Module{Size: 4, Image: second}); err != nil {
		t.Fatal(err)
	}
	first[0], second[0], l[0].Size = 9, 9, 99
	thread(t, s, m)
	for module, want := range map[int]byte{1: 1, 2: 2} {
		a, err := s.Addr(m, 0, module, 0)
		if err != nil {
			t.Fatal(err)
		}
		if b, _ := m.Peek(a, 1); b[0] != want {
			t.Errorf("P18.2: module %d: %v", module, b)
		}
	}
}

// TestApart: blocks of a thread, and of two threads, have no byte in common.
func TestApart(t *testing.T) {
	m := memory(t, 200)
	l := []api.Module{{Size: 40, Align: 4}, {Size: 100, Align: 64}, {Size: 5000, Align: 4096}, {Size: 3}, {Size: 9000, Align: 16}, {Size: 1}}
	s := store(t, l[:3]...)
	for _, x := range l[3:] {
		if _, err := s.Add(x); err != nil {
			t.Fatal(err)
		}
	}
	for range 3 {
		thread(t, s, m)
	}
	owner := map[uint64]int{}
	for n := range 3 {
		p, _ := s.Pointer(n)
		for i := range uint64(64) {
			owner[p+i]++
		}
		if b, _ := m.Peek(p, 64); binary.LittleEndian.Uint64(b) != p || !bytes.Equal(b[8:], make([]byte, 56)) {
			t.Errorf("P18.3: thread %d: %x", n, b)
		}
		for i, x := range l {
			a, err := s.Addr(m, n, i+1, 0)
			if err != nil || x.Align > 0 && a%x.Align != 0 {
				t.Fatalf("P18.6: thread %d, module %d: %x, %v", n, i+1, a, err)
			}
			for k := range x.Size {
				owner[a+k]++
			}
			if err := m.Write(a, bytes.Repeat([]byte{byte(10*n + i + 1)}, int(x.Size))); err != nil {
				t.Fatal(err)
			}
		}
	}
	for a, n := range owner {
		if n > 1 {
			t.Fatalf("P18.7: %d have the byte at %x", n, a)
		}
	}
	for n := range 3 {
		for i, x := range l {
			a, _ := s.Addr(m, n, i+1, 0)
			if b, err := m.Read(a, x.Size); err != nil || !bytes.Equal(b, bytes.Repeat([]byte{byte(10*n + i + 1)}, int(x.Size))) {
				t.Errorf("P18.7: thread %d, module %d reads another one's bytes, %v", n, i+1, err)
			}
		}
	}
}
