package guest_test

import (
	"bytes"
	"encoding/binary"
	"encoding/hex"
	"errors"
	"slices"
	"strings"
	"testing"

	"shackle/api"
	"shackle/guest"
	"shackle/vmem"
)

// Where the code and the stack lie in all tests here.
const (
	code = 0x10000
	pile = 0x20000
	top  = pile + api.Page
)

var errLinker = errors.New("the linker's error")

// linker answers what it is told to, and notes what it was asked.
type linker struct {
	bound, addr uint64
	err         error
	asked       []string
}

func (l *linker) Bind(object, index uint64) (uint64, error) {
	l.asked = append(l.asked, "bind", hex.EncodeToString([]byte{byte(object), byte(index)}))
	return l.bound, l.err
}

func (l *linker) TLS(module, offset uint64) (uint64, error) {
	l.asked = append(l.asked, "address", hex.EncodeToString([]byte{byte(module), byte(offset)}))
	return l.addr, l.err
}

func isSpot(err error, at uint64, c api.Code) bool {
	s, ok := err.(*api.Spot)
	return ok && s.At == at && s.Err == c
}

// machine is a memory with code, told in hexadecimal, a stack and the linker's page.
func machine(t *testing.T, digits string) *vmem.Mem {
	t.Helper()
	b, err := hex.DecodeString(strings.ReplaceAll(digits, " ", ""))
	if err != nil {
		t.Fatal(err)
	}
	m, _ := vmem.New(9)
	for _, err := range []error{m.Map(code, 1, api.R|api.X), m.Map(pile, 1, api.R|api.W), m.Poke(code, b), guest.Page(m)} {
		if err != nil {
			t.Fatal(err)
		}
	}
	return m
}

// start is the registers with which a call begins.
func start() api.Regs {
	return api.Regs{R: [16]uint64{0: 0xaa, 2: 0xbb, 4: top, 6: 0xcc, 7: 0xdd, 15: 0xee}, FS: 0xff, CF: true}
}

func TestPage(t *testing.T) {
	m, _ := vmem.New(1)
	if err := guest.Page(m); err != nil {
		t.Fatal(err)
	}
	want := make([]byte, api.Page)
	want[0], want[16], want[32] = 0xf4, 0xf4, 0xf4
	b, err := m.Peek(api.LinkerPage, api.Page)
	if p, ok := m.Perm(api.LinkerPage); err != nil || !bytes.Equal(b, want) || p != api.R|api.X || !ok || m.Used() != 1 {
		t.Errorf("P20.1: %v, permission %d", err, p)
	}
	if err := guest.Page(m); !isSpot(err, api.LinkerPage, api.ErrTaken) {
		t.Errorf("P20.1: %v", err)
	}
	none, _ := vmem.New(0)
	if err := guest.Page(none); err != api.ErrFull {
		t.Errorf("P20.1: %v", err)
	}
	if err := guest.Page(nil); err != api.ErrArg {
		t.Errorf("P20.1: %v", err)
	}
}

func TestArguments(t *testing.T) {
	m, l, r := machine(t, "c3"), &linker{}, start()
	for _, c := range []struct {
		m    *vmem.Mem
		l    api.Linker
		r    *api.Regs
		fuel int
	}{{nil, l, &r, 5}, {m, nil, &r, 5}, {m, l, nil, 5}, {m, l, &r, -1}} {
		if events, _, err := guest.Run(c.m, c.l, c.r, c.fuel); events != nil || err != api.ErrArg {
			t.Errorf("P20.2: %v", err)
		}
		if c.r == nil {
			continue
		}
		if v, events, _, err := guest.Call(c.m, c.l, *c.r, c.fuel, code); v != 0 || events != nil || err != api.ErrArg {
			t.Errorf("P20.3: %v", err)
		}
	}
	if v, events, _, err := guest.Call(m, l, r, 5, code, 1, 2, 3, 4); v != 0 || events != nil || err != api.ErrArg {
		t.Errorf("P20.3: four args: %v", err)
	}
	if b, _ := m.Peek(top-8, 8); !bytes.Equal(b, make([]byte, 8)) || r != start() {
		t.Errorf("P20.3: something changed beside an error")
	}
}

func TestCall(t *testing.T) {
	for _, c := range []struct {
		what, digits string
		fuel         int
		v            uint64
		events       []api.Event
		left         int
		err          error
	}{
		{"ret", "c3", 5, 0xaa, nil, 3, nil}, {"a trap", "f4 c3", 5, 0xaa, []api.Event{{IP: code, Rax: 0xaa, Rdi: 1}}, 2, nil}, {"a ring", "eb fe", 5, 0, nil, 0, api.ErrFuel},
		{"no fuel", "c3", 0, 0, nil, 0, api.ErrFuel}, {"fuel for one step", "c3", 1, 0, nil, 0, api.ErrFuel}, {"just enough", "c3", 2, 0xaa, nil, 0, nil},
		{"traps ahead of an error", "f4 b8 07 00 00 00 90 48 f4 eb fe", 6, 0, []api.Event{{IP: code, Rax: 0xaa, Rdi: 1}, {IP: code + 8, Rax: 7, Rdi: 1}}, 0, api.ErrFuel},
		{"the first arg", "48 89 f8 c3", 9, 1, nil, 6, nil}, {"the second", "48 89 f0 c3", 9, 2, nil, 6, nil}, {"the third", "48 89 d0 c3", 9, 3, nil, 6, nil}, {"the stack", "48 89 e0 c3", 9, top - 8, nil, 6, nil}, {"another one", "4c 89 f8 c3", 9, 0xee, nil, 6, nil},
		{"a jump back", "48 b8 00 00 00 70 00 00 00 00 ff e0", 9, api.LinkerPage, nil, 6, nil},
	} {
		m := machine(t, c.digits)
		v, events, left, err := guest.Call(m, &linker{}, start(), c.fuel, code, 1, 2, 3)
		if v != c.v || !slices.Equal(events, c.events) || left != c.left || err != c.err {
			t.Errorf("P20.3: %s: %x, %x, %d, %v", c.what, v, events, left, err)
		}
		if b, _ := m.Peek(top-8, 8); binary.LittleEndian.Uint64(b) != api.LinkerPage {
			t.Errorf("P20.3: %s: the address to come back to: %x", c.what, b)
		}
	}
}

// TestCallArgs: registers 7, 6 and 2 are the args, as many as there are; what is handed in isn't changed.
func TestCallArgs(t *testing.T) {
	order := []int{7, 6, 2}
	show := map[int]string{7: "48 89 f8 c3", 6: "48 89 f0 c3", 2: "48 89 d0 c3"}
	for n := range 4 {
		args := []uint64{0x11, 0x22, 0x33}[:n]
		want := start()
		for i, v := range args {
			want.R[order[i]] = v
		}
		for _, reg := range order {
			r := start()
			if v, _, _, err := guest.Call(machine(t, show[reg]), &linker{}, r, 9, code, args...); v != want.R[reg] || err != nil || r != start() {
				t.Errorf("P20.3: %d args: register %d is %x, %v", n, reg, v, err)
			}
		}
	}
}

// TestErrors: what vmem, exec and the linker answer is answered as it stands, and how much fuel is left then.
func TestErrors(t *testing.T) {
	m := machine(t, "c3")
	r := start()
	r.R[4] = pile
	if v, events, left, err := guest.Call(m, &linker{}, r, 5, code); v != 0 || events != nil || left != 5 || !isSpot(err, pile-8, api.ErrWrite) {
		t.Errorf("P20.3: no room on the stack: %v, %d left", err, left)
	}
	for _, c := range []struct {
		what, digits string
		at           uint64
		err          api.Code
		left         int
	}{
		{"an opcode", "90 06", code + 1, api.ErrOpcode, 4}, {"a read", "90 f4 48 8b 04 25 00 00 00 00", 0, api.ErrRead, 3}, {"a write", "89 04 25 05 00 00 00", 5, api.ErrWrite, 5}, {"a jump nowhere", "e9 fb 0f 00 00", code + api.Page, api.ErrFetch, 4},
	} {
		m := machine(t, c.digits)
		v, events, left, err := guest.Call(m, &linker{}, start(), 5, code)
		if v != 0 || len(events) != strings.Count(c.digits, "f4") || left != c.left || !isSpot(err, c.at, c.err) {
			t.Errorf("P20.2: %s: %x, %v, %d left", c.what, events, err, left)
		}
	}
}

// run runs code with registers and tells these behind it.
func run(m *vmem.Mem, l api.Linker, r api.Regs, fuel int) (api.Regs, []api.Event, int, error) {
	events, left, err := guest.Run(m, l, &r, fuel)
	return r, events, left, err
}

func TestRunRegs(t *testing.T) {
	m := machine(t, "48 ff c0 f4 06")
	r := start()
	r.IP = code
	want := r
	want.R[0], want.IP = 0xab, code+4
	got, events, left, err := run(m, &linker{}, r, 9)
	if want.PF, want.CF = false, true; got != want || !isSpot(err, code+4, api.ErrOpcode) || left != 7 || len(events) != 1 {
		t.Errorf("P20.2: %+v, %v, %d left", got, err, left)
	}
	r.IP = api.LinkerPage
	if got, events, left, err := run(m, &linker{}, r, 9); err != nil || left != 8 || events != nil || got.IP != api.LinkerPage+1 {
		t.Errorf("P20.2: %+v, %v, %d left", got, err, left)
	}
}

// words lays numbers at a place.
func words(t *testing.T, m *vmem.Mem, at uint64, l ...uint64) {
	t.Helper()
	for i, v := range l {
		if err := m.Poke(at+8*uint64(i), binary.LittleEndian.AppendUint64(nil, v)); err != nil {
			t.Fatal(err)
		}
	}
}

func TestBind(t *testing.T) {
	m := machine(t, "f4 c3")
	l := &linker{bound: code}
	words(t, m, top-24, 5, 6, api.LinkerPage)
	r := start()
	r.IP, r.R[4] = api.LinkerPage+16, top-24
	got, events, left, err := run(m, l, r, 9)
	want := r
	want.IP, want.R[4] = api.LinkerPage+1, top
	if got != want || err != nil || left != 5 || !slices.Equal(l.asked, []string{"bind", "0506"}) || !slices.Equal(events, []api.Event{{IP: code, Rax: 0xaa, Rdi: 0xdd}}) {
		t.Errorf("P20.2: %+v, %x, %d, %v, asked %v", got, events, left, err, l.asked)
	}
	l.err = errLinker
	got, events, left, err = run(m, l, r, 9)
	if want.IP, want.R[4] = api.LinkerPage+17, top-24; got != want || err != errLinker || left != 8 || events != nil {
		t.Errorf("P20.2: %+v, %x, %d, %v", got, events, left, err)
	}
	r.R[4] = top - 15
	l.asked = nil
	got, _, left, err = run(m, l, r, 9)
	if want.R[4] = top - 15; got != want || !isSpot(err, top, api.ErrRead) || left != 8 || l.asked != nil {
		t.Errorf("P20.2: %+v, %d, %v, asked %v", got, left, err, l.asked)
	}
}

func TestTLS(t *testing.T) {
	m := machine(t, "f4 c3")
	l := &linker{addr: 0x123456789abcdef0}
	words(t, m, pile, 3, 7)
	words(t, m, top-16, code, api.LinkerPage)
	r := start()
	r.IP, r.R[4], r.R[7] = api.LinkerPage+32, top-16, pile
	got, events, left, err := run(m, l, r, 9)
	want := r
	want.IP, want.R[4], want.R[0] = api.LinkerPage+1, top, l.addr
	if got != want || err != nil || left != 5 || !slices.Equal(l.asked, []string{"address", "0307"}) || !slices.Equal(events, []api.Event{{IP: code, Rax: l.addr, Rdi: pile}}) {
		t.Errorf("P20.2: %+v, %x, %d, %v, asked %v", got, events, left, err, l.asked)
	}
	want = r
	want.IP = api.LinkerPage + 33
	r.R[4] = top - 7
	if got, _, left, err := run(m, l, r, 9); got.R[0] != 0xaa || got.R[4] != top-7 || got.IP != want.IP || !isSpot(err, top, api.ErrRead) || left != 8 {
		t.Errorf("P20.2: nowhere to return to: %+v, %d, %v", got, left, err)
	}
	l.err = errLinker
	if got, _, left, err := run(m, l, r, 9); got.IP != want.IP || err != errLinker || left != 8 {
		t.Errorf("P20.2: %+v, %d, %v", got, left, err)
	}
	l.asked = nil
	r.R[7] = pile - 8
	if _, _, left, err := run(m, l, r, 9); !isSpot(err, pile-8, api.ErrRead) || left != 8 || l.asked != nil {
		t.Errorf("P20.2: %d, %v, asked %v", left, err, l.asked)
	}
}

// TestElsewhere: other places of the linker's page are none of its own.
func TestElsewhere(t *testing.T) {
	for _, off := range []uint64{1, 8, 48} {
		r := start()
		r.IP = api.LinkerPage + off
		l := &linker{}
		if _, _, left, err := run(machine(t, "c3"), l, r, 9); !isSpot(err, 0xaa, api.ErrRead) || left != 9 || l.asked != nil { // noughts add to what register 0 tells
			t.Errorf("P20.2: at %d: %v, %d left", off, err, left)
		}
	}
	m, _ := vmem.New(3)
	m.Map(api.LinkerPage, 1, 7)
	m.Poke(api.LinkerPage+8, []byte{0xf4})
	m.Poke(api.LinkerPage+64, []byte{0xf4})
	for _, off := range []uint64{8, 64} {
		r := start()
		r.IP = api.LinkerPage + off
		if _, events, _, err := run(m, &linker{}, r, 1); err != api.ErrFuel || len(events) != 1 || events[0].IP != r.IP {
			t.Errorf("P20.2: a trap at %d: %x, %v", off, events, err)
		}
	}
}

// TestFuel: it takes as many steps as there is fuel at most; what is run twice does the same.
func TestFuel(t *testing.T) {
	digits := "b9 05 00 00 00 f4 ff c9 75 fb c3" // five traps
	steps := 1 + 5*3 + 1 + 1
	for fuel := range steps + 3 {
		a, b := machine(t, digits), machine(t, digits)
		v, events, left, err := guest.Call(a, &linker{}, start(), fuel, code)
		v2, events2, left2, err2 := guest.Call(b, &linker{}, start(), fuel, code)
		if at, ok := a.Differ(b); v != v2 || !slices.Equal(events, events2) || left != left2 || err != err2 || ok {
			t.Errorf("P20.4: with fuel %d another time another answer, %x", fuel, at)
		}
		if fuel < steps && (err != api.ErrFuel || left != 0) || fuel >= steps && (err != nil || left != fuel-steps || len(events) != 5) {
			t.Errorf("P20.4: fuel %d: %d left, %v", fuel, left, err)
		}
	}
}
