package link_test

import (
	"slices"
	"testing"

	"shackle/api"
	"shackle/link"
	"shackle/object"
	"shackle/sample"
)

// caller is a program that traps with 7 and calls functions, which are bound at the start.
func caller(needed []string, names ...string) *sample.Lib {
	p := prog(needed...)
	p.Trap(7)
	for _, n := range names {
		p.Call(n)
	}
	p.Ret()
	return p
}

// later is likewise one whose functions are bound at their first calls.
func later(needed []string, names ...string) *sample.Lib {
	p := prog(needed...)
	p.Trap(7)
	for _, n := range names {
		p.CallLater(n)
	}
	p.Ret()
	return p
}

// defines is a library with functions that trap with numbers.
func defines(soname string, names string, n uint32) *sample.Lib {
	l := lib(soname)
	for i, c := range names {
		l.Traps(string(c), n+uint32(i))
	}
	return l
}

// tied is what an auditor heard of symbols.
func tied(k *link.Link) []api.Audit {
	return slices.DeleteFunc(k.Audit(), func(a api.Audit) bool { return a.Kind != api.Tied })
}

func TestCallLibrary(t *testing.T) {
	for _, p := range []*sample.Lib{caller([]string{"x"}, "g"), later([]string{"x"}, "g")} {
		k := start(t, files{path: p, "/lib64/x": defines("", "g", 9)})
		if v := run(t, k); v != 9 {
			t.Errorf("P21.3: register 0 is %d", v)
		}
		expect(t, "P21.3: a call of a library", k, 7, 9)
		if l := tied(k); !slices.Equal(l, []api.Audit{{Kind: api.Tied, Object: 0, Other: 1, Name: "g"}}) {
			t.Errorf("P21.4: %+v", l)
		}
	}
}

// TestOrder: of two that define a symbol the one that is needed first means it; what is preloaded goes ahead, the program ahead of all.
func TestOrder(t *testing.T) {
	l := files{path: caller([]string{"x", "y"}, "g", "h"), "/lib64/x": defines("", "g", 1), "/lib64/y": defines("", "gh", 2), "/lib64/z": defines("", "h", 5)}
	k := start(t, l)
	run(t, k)
	expect(t, "P21.1: the first that is needed", k, 7, 1, 3)
	s := setup()
	s.Preload = "z"
	k = startWith(t, s, l)
	run(t, k)
	expect(t, "P21.1: what is preloaded", k, 7, 1, 5)
	x := lib("")
	x.Func("g")
	x.Call("h")
	x.Ret()
	l["/lib64/x"] = x
	l[path].Traps("h", 8)
	k = start(t, l)
	run(t, k)
	expect(t, "P21.1: the program's own", k, 7, 8, 8)
}

// TestSymbolic: it looks in itself first.
func TestSymbolic(t *testing.T) {
	x := defines("", "h", 3)
	x.Func("g")
	slot := x.Slot(6, 1, 0) // of its own h
	x.Reach(slot, 0xff, 0x15)
	x.Ret()
	p := caller([]string{"x"}, "g")
	p.Traps("h", 8)
	l := files{path: p, "/lib64/x": x}
	for _, c := range []struct {
		flags uint64
		want  uint64
	}{{0, 8}, {2, 3}} {
		x.Plan.Flags = c.flags
		k := start(t, l)
		run(t, k)
		expect(t, "P21.1: symbolic or not", k, 7, c.want)
	}
	x.Plan.Flags = 0
	for vis, want := range []uint64{8, 3, 3, 3} {
		x.Plan.Syms[0].Vis = vis
		k := start(t, l)
		run(t, k)
		expect(t, "P21.1: what binds to itself", k, 7, want)
		if n := len(tied(k)); vis > 0 && n != 1 {
			t.Errorf("P21.1: an auditor heard of %d", n)
		}
	}
	x.Plan.Syms[0].Vis, x.Plan.Syms[0].Bind = 0, api.Local
	k := start(t, l)
	run(t, k)
	expect(t, "P21.1: a local one", k, 7, 3)
}

func TestMissing(t *testing.T) {
	l := files{path: caller([]string{"x"}, "g"), "/lib64/x": defines("", "h", 9)}
	refused(t, "P21.1: a symbol that isn't there", setup(), tree(t, l), path, "g", api.ErrSymbol)
	l[path] = later([]string{"x"}, "h", "g", "h")
	s := setup()
	s.Now = true
	refused(t, "T3: at once", s, tree(t, l), path, "g", api.ErrSymbol)
	for _, flags := range [][2]uint64{{8, 0}, {0, 1}} {
		l[path].Plan.Flags, l[path].Plan.Flags1 = flags[0], flags[1]
		refused(t, "T3: BindNow", setup(), tree(t, l), path, "g", api.ErrSymbol)
	}
	l[path].Plan.Flags, l[path].Plan.Flags1 = 0, 0
	k := start(t, l)
	if v, err := k.Run(); v != 0 || !isFault(err, path, "g", api.ErrSymbol) {
		t.Errorf("T3: at its first call: %d, %v", v, err)
	}
	expect(t, "T3: what was done ahead of it stays", k, 7, 9)
	l[path] = later([]string{"x"}, "h")
	l[path].CallLater("g") // behind the end: it is never called
	k = start(t, l)
	run(t, k)
	expect(t, "T3: never", k, 7, 9)
}

// TestWeak: a weak symbol that isn't there means nothing.
func TestWeak(t *testing.T) {
	p := prog()
	i := p.Import(api.PlanSym{Name: "g", Bind: api.Weak, Type: api.Func})
	slot := p.Slot(6, i, 5)
	p.Slot(1, i, 5)
	p.Load(slot + 8)
	p.Ret()
	k := start(t, files{path: p})
	if v := run(t, k); v != 5 {
		t.Errorf("P21.1: %x", v)
	}
	local := prog()
	slot = local.Slot(6, local.Import(api.PlanSym{Name: "g", Bind: api.Local}), 0)
	local.Load(slot)
	local.Ret()
	if v := run(t, start(t, files{path: local})); v != 0 {
		t.Errorf("P21.1: a local one that isn't defined: %x", v)
	}
}

// TestVersioned: a symbol is bound by its version.
func TestVersioned(t *testing.T) {
	x := lib("X")
	x.Traps("g", 1).Version = "V1"
	y := x.Traps("g", 2)
	y.Version, y.Hidden = "V2", true
	x.Traps("g", 3).Version = "V3"
	x.Plan.Syms[0].Hidden = true
	for version, want := range map[string]uint64{"V1": 1, "V2": 2, "V3": 3, "": 3} {
		p := prog("x")
		y := sample.Want("g")
		y.Version, y.File = version, "X"
		p.CallOf(y)
		p.Ret()
		k := start(t, files{path: p, "/lib64/x": x})
		run(t, k)
		expect(t, "P21.1: version "+version, k, want)
		if a := find(t, k, 0, "g", version); call(t, k, a) != want {
			t.Errorf("P21.5: version %s", version)
		}
	}
	if _, err := start(t, files{path: prog("x"), "/lib64/x": x}).Sym(0, "g", "V4"); !isFault(err, "", "g", api.ErrSymbol) {
		t.Errorf("P21.5: %v", err)
	}
}

// TestCopyRelocation: a program's copy of a library's data is what both mean.
func TestCopyRelocation(t *testing.T) {
	x := lib("")
	x.Symbol(api.PlanSym{Name: "d", Bind: api.Global, Type: api.Data, Where: api.InData, Off: x.Word(0x1122334455667788), Size: 8})
	slot := x.Slot(6, 1, 0)
	x.Func("get")
	x.Load(slot)
	x.Ret()
	p := prog("x")
	place := p.Word(0)
	beside := p.Word(5)
	p.Symbol(api.PlanSym{Name: "d", Bind: api.Global, Type: api.Data, Where: api.InData, Off: place, Size: 8})
	p.Plan.Rels = append(p.Plan.Rels, api.PlanRel{Where: api.InData, Off: place, Type: 5, Sym: 1})
	p.Load(place)
	p.Ret()
	l := files{path: p, "/lib64/x": x}
	k := start(t, l)
	if v := run(t, k); v != 0x1122334455667788 {
		t.Errorf("P21.1: %x", v)
	}
	mine := find(t, k, 1, "d", "")
	if v := call(t, k, find(t, k, 0, "get", "")); v != mine || mine != main+where(t, p).Data+place {
		t.Errorf("P21.1: the library means %x, not %x", v, mine)
	}
	if word(t, k, mine+beside-place) != 5 {
		t.Error("P21.1: more was copied")
	}
	if l := tied(k); !slices.Contains(l, api.Audit{Kind: api.Tied, Object: 0, Other: 1, Name: "d"}) {
		t.Errorf("P21.1: %+v", l)
	}
	x.Plan.Syms[0].Name = "e"
	refused(t, "P21.1: nothing to copy", setup(), tree(t, l), path, "d", api.ErrSymbol)
	p.Plan.Syms[0].Bind = api.Weak
	refused(t, "P21.1: nothing to copy, weak", setup(), tree(t, l), path, "d", api.ErrSymbol)
	p.Plan.Rels[0].Sym = 0
	if v := run(t, start(t, l)); v != 0 {
		t.Errorf("P21.1: a copy of no symbol: %x", v)
	}
}

// TestRelocationAmiss: what can't be written is told with the object and the symbol.
func TestRelocationAmiss(t *testing.T) {
	p := caller([]string{"x"}, "g")
	p.Plan.Rels[0].Type = 99
	l := files{path: p, "/lib64/x": defines("", "g", 9)}
	refused(t, "P21.1: a type", setup(), tree(t, l), path, "g", api.ErrReloc)
	p.Plan.Rels[0].Type, p.Plan.Rels[0].Sym = 99, 0
	refused(t, "P21.1: a type of no symbol", setup(), tree(t, l), path, "", api.ErrReloc)
	p.Plan.Rels[0] = api.PlanRel{Where: api.InCode, Type: 6, Sym: 1}
	refused(t, "P21.1: in text", setup(), tree(t, l), path, "g", api.ErrReloc)
	p.Plan.Rels[0] = api.PlanRel{Where: api.InCode, Type: 8, Sym: 1}
	refused(t, "P21.1: in text, of a type that asks for no symbol", setup(), tree(t, l), path, "g", api.ErrReloc)
	p.Plan.Rels[0] = api.PlanRel{Where: api.InCode, Type: 0, Sym: 1}
	if k := start(t, l); len(tied(k)) != 0 {
		t.Errorf("P21.1: type 0 asks for a symbol: %+v", tied(k))
	}
	p.Plan.Rels[0] = api.PlanRel{Where: api.InData, Type: 8, Sym: p.Import(sample.Want("none"))}
	if k := start(t, l); len(tied(k)) != 0 {
		t.Errorf("P21.1: type 8 asks for a symbol: %+v", tied(k))
	}
	text := later([]string{"x"}, "g")
	text.Plan.Plt[0].Where, text.Plan.Plt[0].Off = api.InCode, 0
	refused(t, "P21.1: a slot in text", setup(), tree(t, files{path: text, "/lib64/x": defines("", "g", 9)}), path, "", api.ErrReloc)
	packed := prog()
	packed.Plan.Relr = []uint64{packed.Word(0)}
	b, err := packed.File()
	if err != nil || !setTag(b, 36, 40) { // 8 noughts of the header: the address 0, in text
		t.Fatal(err)
	}
	refused(t, "P21.1: a packed one in text", setup(), tree(t, nil, api.Node{Path: path, Data: b}), path, "", api.ErrReloc)
	q := later(nil, "g")
	q.Plan.Pltgot = uint64(len(q.Plan.Data)) - 8
	refused(t, "P21.1: no room behind Pltgot", setup(), tree(t, files{path: q}), path, "", api.ErrReloc)
	q = prog()
	q.Ret()
	q.Plan.HasPltgot, q.Plan.Pltgot = true, 0
	start(t, files{path: q}) // without a table nothing is written there
}

// TestTableAmiss: a table of symbols that is amiss is told by who looks in it.
func TestTableAmiss(t *testing.T) {
	x, err := defines("", "g", 9).File()
	if err != nil {
		t.Fatal(err)
	}
	o, err := object.Parse(x)
	if err != nil {
		t.Fatal(err)
	}
	x[o.Dyn.Hash+16] = 1 // the chain of symbol 1 leads to itself
	bad := api.Node{Path: "/lib64/x", Data: x}
	refused(t, "P21.1: a ring", setup(), tree(t, files{path: caller([]string{"x"}, "h")}, bad), path, "h", api.ErrForm)
	k := start(t, files{path: caller([]string{"x"})}, bad)
	if a, err := k.Sym(0, "h", ""); a != 0 || !isFault(err, "", "h", api.ErrForm) {
		t.Errorf("P21.5: %x, %v", a, err)
	}
}

// resolves is a library whose function g is what its code, called first, answers: that traps with a number.
func resolves(trap uint32, n uint32) *sample.Lib {
	x := lib("")
	target := x.Here()
	x.Trap(n)
	x.Ret()
	pointer := x.Pointer(target)
	x.Func("g").Type = api.Ifunc
	x.Trap(trap)
	x.Load(pointer)
	x.Ret()
	return x
}

// TestIfunc: what a function's code answers is its address; where something goes wrong the library and the symbol are told.
func TestIfunc(t *testing.T) {
	x := resolves(4, 9)
	l := files{path: caller([]string{"x"}, "g", "g"), "/lib64/x": x}
	k := start(t, l)
	expect(t, "P21.1: at the start, for each relocation", k, 4, 4)
	run(t, k)
	expect(t, "P21.1: then", k, 4, 4, 7, 9, 9)
	if a := find(t, k, 0, "g", ""); a != libs+where(t, x).Code+1 {
		t.Errorf("P21.5: %x", a)
	}
	expect(t, "P21.5: asked once more", k, 4, 4, 7, 9, 9, 4)
	l[path] = later([]string{"x"}, "g", "g")
	k = start(t, l)
	expect(t, "T3: not at the start", k)
	run(t, k)
	expect(t, "T3: at the first call alone", k, 7, 4, 9, 9)
	bad := lib("")
	bad.Func("g").Type = api.Ifunc
	bad.Trap(1)
	bad.Raw(0x06)
	l["/lib64/x"] = bad
	k = start(t, l)
	if _, err := k.Run(); !isFault(err, "/lib64/x", "g", api.ErrGuest) {
		t.Errorf("P21.3: %v", err)
	}
	expect(t, "P21.3: its events stay", k, 7, 1)
	if _, err := k.Sym(0, "g", ""); !isFault(err, "/lib64/x", "g", api.ErrGuest) {
		t.Errorf("P21.5: %v", err)
	}
	expect(t, "P21.5: with a fault nothing has changed", k, 7, 1)
	l[path] = caller([]string{"x"}, "g")
	refused(t, "P21.1: an Ifunc", setup(), tree(t, l), "/lib64/x", "g", api.ErrGuest)
}

// TestIrelative: the code at the addend is called, what it answers is written.
func TestIrelative(t *testing.T) {
	p := prog()
	slot := p.Word(0)
	p.Load(slot)
	p.Ret()
	code := p.Here()
	p.Trap(3)
	p.Set(77)
	p.Ret()
	i := p.Import(api.PlanSym{Name: "why", Bind: api.Weak})
	p.Plan.Rels = []api.PlanRel{{Where: api.InData, Off: slot, Type: 37, Sym: i, From: api.InCode, Add: int64(code)}}
	k := start(t, files{path: p})
	if v := run(t, k); v != 77 || len(tied(k)) != 0 {
		t.Errorf("P21.1: %d", v)
	}
	expect(t, "P21.1: the addend's code", k, 3)
	p.Plan.Code[code] = 0x06
	refused(t, "P21.1: it goes wrong", setup(), tree(t, files{path: p}), path, "why", api.ErrGuest)
	p.Plan.Rels[0].Sym = 0
	refused(t, "P21.1: it goes wrong, of no symbol", setup(), tree(t, files{path: p}), path, "", api.ErrGuest)
}

// TestNested: what is called while a slot is bound takes of the same fuel, its events stand where that was, and it may have slots bound itself.
func TestNested(t *testing.T) {
	x := lib("", "y")
	target := x.Here()
	x.Trap(9)
	x.Ret()
	pointer := x.Pointer(target)
	x.Func("g").Type = api.Ifunc
	x.Trap(4)
	x.CallLater("h")
	x.Load(pointer)
	x.Ret()
	y := resolves(5, 6)
	y.Plan.Syms[0].Name = "h"
	l := files{path: later([]string{"x"}, "g"), "/lib64/x": x, "/lib64/y": y}
	k := start(t, l)
	before := k.Fuel()
	run(t, k)
	expect(t, "P21.3: events", k, 7, 4, 5, 6, 9)
	used := before - k.Fuel()
	s := setup()
	for fuel := used - 3; fuel <= used; fuel++ {
		s.Fuel = fuel
		k = startWith(t, s, l)
		if _, err := k.Run(); fuel == used && (err != nil || k.Fuel() != 0) || fuel < used && !isFault(err, "", "", api.ErrFuel) {
			t.Errorf("P21.3: with the fuel %d: %v, %d left", fuel, err, k.Fuel())
		}
	}
	s.Fuel = 14 // it ends within what is called while g is bound
	k = startWith(t, s, l)
	if _, err := k.Run(); !isFault(err, "/lib64/x", "g", api.ErrFuel) || k.Fuel() != 0 {
		t.Errorf("P21.3: %v", err)
	}
	loop := lib("")
	loop.Func("g").Type = api.Ifunc
	loop.CallLater("g")
	loop.Ret()
	l["/lib64/x"] = loop
	s.Fuel = 3000
	k = startWith(t, s, l)
	if _, err := k.Run(); !isFault(err, "/lib64/x", "g", api.ErrFuel) || k.Fuel() != 0 {
		t.Errorf("P21.3: without an end: %v, %d left", err, k.Fuel())
	}
}

// TestSlots: a slot goes to what asks the linker first, and to its function then; at once there is no difference but for that.
func TestSlots(t *testing.T) {
	p := later([]string{"x"}, "g", "h", "g")
	l := files{path: p, "/lib64/x": defines("", "gh", 9)}
	w := where(t, p)
	slots := []uint64{main + w.Data + 24, main + w.Data + 32}
	late := start(t, l)
	if word(t, late, main+w.Data+8) != 0 || word(t, late, main+w.Data+16) != api.LinkerPage+16 {
		t.Errorf("P21.1: %x, %x", word(t, late, main+w.Data+8), word(t, late, main+w.Data+16))
	}
	if v := word(t, late, slots[0]); v < main || v >= main+0x1000 {
		t.Errorf("P21.1: a slot at first: %x", v)
	}
	s := setup()
	s.Now = true
	early := startWith(t, s, l)
	g := find(t, early, 0, "g", "")
	if word(t, early, slots[0]) != g || word(t, early, main+w.Data+16) != 0 {
		t.Errorf("P21.1: at once: %x, %x", word(t, early, slots[0]), word(t, early, main+w.Data+16))
	}
	run(t, late)
	run(t, early)
	expect(t, "T3: late", late, 7, 9, 10, 9)
	expect(t, "T3: early", early, 7, 9, 10, 9)
	for _, slot := range slots {
		if word(t, late, slot) != word(t, early, slot) {
			t.Errorf("T3: the slot at %x", slot)
		}
	}
	used := late.Fuel()
	run(t, late)
	if spent := used - late.Fuel(); spent != 10000-early.Fuel() {
		t.Errorf("T3: bound once: %d, not %d steps", spent, 10000-early.Fuel())
	}
	if n := len(tied(late)); n != 2 {
		t.Errorf("T3: bound once: %d", n)
	}
}

// TestWrongSlots: the guest asks for what isn't a slot.
func TestWrongSlots(t *testing.T) {
	for what, numbers := range map[string][2]byte{"no object": {9, 0}, "no relocation": {0, 9}, "a negative object": {0xff, 0}, "a negative relocation": {0, 0xff}, "another type": {0, 1}, "the next object": {2, 0}, "the next relocation": {0, 2}} {
		p := prog("x")
		p.Raw(0x6a, numbers[1], 0x6a, numbers[0])
		p.Reach(p.Word(api.LinkerPage+16), 0xff, 0x25)
		p.CallLater("g")
		p.Plan.Plt = append(p.Plan.Plt, api.PlanRel{Where: api.InData, Off: p.Word(0), Type: 6, Sym: p.Import(sample.Want("g"))})
		k := start(t, files{path: p, "/lib64/x": defines("", "g", 9)})
		if _, err := k.Run(); !isFault(err, "", "", api.ErrGuest) {
			t.Errorf("P21.3: %s: %v", what, err)
		}
	}
}

// TestThreadLocal: the relocations of thread-local storage, and addresses that the guest asks for.
func TestThreadLocal(t *testing.T) {
	x := lib("")
	x.Plan.HasTLS, x.Plan.TLSSize, x.Plan.TLSAlign, x.Plan.TLS = true, 32, 16, []byte{1, 2, 3, 4, 5, 6, 7, 8, 9}
	x.Symbol(api.PlanSym{Name: "v", Bind: api.Global, Type: api.TLS, Where: api.InTLS, Off: 8, Size: 3})
	own := []uint64{x.Slot(16, 0, 0), x.Slot(17, 0, 5), x.Slot(18, 0, 5)}
	p := prog("x")
	p.Plan.HasTLS, p.Plan.TLSSize, p.Plan.TLSAlign = true, 4, 4
	i := p.Import(sample.Want("v"))
	pair := p.Slot(16, i, 0)
	p.Slot(17, i, 1)
	below := p.Slot(18, i, 1)
	size := p.Slot(33, i, 0)
	plain := p.Slot(6, i, 0)
	p.Reach(pair, 0x48, 0x8d, 0x3d)
	p.Reach(p.Word(api.LinkerPage+32), 0xff, 0x15)
	p.Ret()
	k := start(t, files{path: p, "/lib64/x": x})
	pd, xd := main+where(t, p).Data, libs+where(t, x).Data
	for at, want := range map[uint64]uint64{pd + pair: 2, pd + pair + 8: 9, pd + below: 1<<64 - 48 + 9, pd + size: 3, pd + plain: 0, xd + own[0]: 2, xd + own[1]: 5, xd + own[2]: 1<<64 - 48 + 5} {
		if v := word(t, k, at); v != want {
			t.Errorf("P21.1: at %x: %x, not %x", at, v, want)
		}
	}
	tp := uint64(api.TLSBase + 0x40)
	if v := run(t, k); v != tp-48+9 {
		t.Errorf("P21.3: %x", v)
	}
	if a := find(t, k, 0, "v", ""); a != tp-48+8 || word(t, k, a) != 9 {
		t.Errorf("P21.5: %x", a)
	}
	n, err := k.Thread()
	if n != 1 || err != nil {
		t.Fatalf("P21.3: %d, %v", n, err)
	}
	if v, err := k.Call(1, main+where(t, p).Code+1); v != tp+api.Page-48+9 || err != nil {
		t.Errorf("P21.3: on another thread: %x, %v", v, err)
	}
	if a, err := k.Local(1, 2, 8); a != tp+api.Page-48+8 || err != nil {
		t.Errorf("P21.3: %x, %v", a, err)
	}
	if word(t, k, tp) != tp || word(t, k, tp+api.Page) != tp+api.Page {
		t.Error("P21.3: the threads' pointers")
	}
	run(t, k)
	p.Plan.Rels[0].Sym = 0
	p.Plan.Rels[0].Type = 17
	p.Plan.Rels[0].Add = 99
	k = start(t, files{path: p, "/lib64/x": x})
	if _, err := k.Run(); !isFault(err, "", "", api.ErrGuest) {
		t.Errorf("P21.3: no such module: %v", err)
	}
}

// TestRegisters: how a call begins.
func TestRegisters(t *testing.T) {
	p := prog()
	p.Func("sp")
	p.Raw(0x48, 0x89, 0xe0, 0xc3)
	p.Func("fs")
	p.Raw(0x64, 0x48, 0x8b, 0x04, 0x25, 0, 0, 0, 0, 0xc3)
	p.Func("all") // all that are 0 at first, together
	p.Raw(0x48, 0x09, 0xc8, 0x48, 0x09, 0xd8, 0x48, 0x09, 0xe8, 0x4c, 0x09, 0xc0, 0x4c, 0x09, 0xf8, 0x4c, 0x09, 0xe0, 0xc3)
	p.Func("args")
	p.Raw(0x48, 0x8d, 0x04, 0x37, 0x48, 0x01, 0xd0, 0xc3)
	p.Func("flags")
	p.Raw(0x0f, 0x92, 0xc0, 0x0f, 0x94, 0xc1, 0x08, 0xc8, 0xc3)
	k := start(t, files{path: p})
	for name, want := range map[string]uint64{"sp": api.StackBase + 4*api.Page - 8, "fs": api.TLSBase, "all": 0, "flags": 0, "args": 0} {
		if v := call(t, k, find(t, k, 1, name, "")); v != want {
			t.Errorf("P21.3: %s: %x, not %x", name, v, want)
		}
	}
	if v := call(t, k, find(t, k, 1, "args", ""), 1, 20, 300); v != 321 {
		t.Errorf("P21.3: %d", v)
	}
	for _, c := range []struct {
		thread int
		args   []uint64
	}{{1, nil}, {-1, nil}, {0, []uint64{1, 2, 3, 4}}} {
		if v, err := k.Call(c.thread, main, c.args...); v != 0 || !isFault(err, "", "", api.ErrArg) {
			t.Errorf("P21.3: %+v: %v", c, err)
		}
	}
	if _, err := k.Local(0, 1, 0); !isFault(err, "", "", api.ErrArg) {
		t.Errorf("P21.3: %v", err)
	}
}

// TestCallStays: what a call did stays, also with a fault.
func TestCallStays(t *testing.T) {
	p := prog()
	off := p.Word(1)
	p.Trap(5)
	p.Reach(off, 0x48, 0x89, 0x05)
	p.Raw(0x06)
	k := start(t, files{path: p})
	if v, err := k.Run(); v != 0 || !isFault(err, "", "", api.ErrGuest) || k.Fuel() != 9997 {
		t.Errorf("P21.3: %d, %v, %d left", v, err, k.Fuel())
	}
	if v := word(t, k, main+where(t, p).Data+off); v != 5 {
		t.Errorf("P21.3: %d", v)
	}
	expect(t, "P21.3: its events stay", k, 5)
	if _, err := k.Call(0, 0x1234); !isFault(err, "", "", api.ErrGuest) {
		t.Errorf("P21.3: %v", err)
	}
}

// TestThreadFull: too few pages for a thread.
func TestThreadFull(t *testing.T) {
	p := prog()
	p.Ret()
	s := setup()
	s.Quota = 8
	k := startWith(t, s, files{path: p})
	if n, err := k.Thread(); n != 0 || !isFault(err, "", "", api.ErrFull) {
		t.Errorf("P21.3: %d, %v", n, err)
	}
	run(t, k)
}
