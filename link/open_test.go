package link_test

import (
	"fmt"
	"math"
	"slices"
	"testing"

	"shackle/api"
	"shackle/link"
	"shackle/object"
	"shackle/sample"
)

// some is a program with libraries to be opened: a needs c, b needs c; each has a function of its name.
func some() files {
	p := prog("z")
	p.Ret()
	l := files{path: p}
	for i, name := range []string{"z", "a", "b", "c"} {
		x := begins("so"+name, uint32(i+1))
		x.Traps("f"+name, uint32(i+51))
		x.Traps("who", uint32(i+61))
		l["/lib64/"+name] = x
	}
	l["/lib64/a"].Plan.Needed = []string{"c"}
	l["/lib64/b"].Plan.Needed = []string{"c"}
	return l
}

// heard is the kinds and the objects of what an auditor heard, from one on.
func heard(k *link.Link, from int) string {
	s := ""
	for _, a := range k.Audit()[from:] {
		s += fmt.Sprintf("%d:%d ", a.Kind, a.Object)
	}
	return s
}

func TestOpenClose(t *testing.T) {
	k := start(t, some())
	from := len(k.Audit())
	used := k.Memory().Used()
	h := open(t, k, "a", false, false)
	if h != 3 || names(k) != path+" z a c" || heard(k, from) != "1:2 1:3 2:3 2:2 " {
		t.Errorf("P21.4: handle %d, %s, %s", h, names(k), heard(k, from))
	}
	expect(t, "P21.4: initialisers", k, 1, 4, 2)
	o := k.Objects()
	if o[2].Count != 1 || o[3].Count != 0 || o[2].Global || o[3].Global || !slices.Equal(o[2].Deps, []int{3}) || !slices.Equal(k.Scope(), []int{0, 1}) {
		t.Errorf("P21.4: %+v, scope %v", o, k.Scope())
	}
	if v := call(t, k, find(t, k, h, "fa", "")); v != 52 {
		t.Errorf("P21.5: %d", v)
	}
	if a, b := find(t, k, h, "who", ""), find(t, k, 0, "who", ""); call(t, k, a) != 62 || call(t, k, b) != 61 {
		t.Errorf("P21.5: %x, %x", a, b)
	}
	if _, err := k.Sym(0, "fa", ""); !isFault(err, "", "fa", api.ErrSymbol) {
		t.Errorf("P21.5: %v", err)
	}
	from = len(k.Audit())
	shut(t, k, h)
	if heard(k, from) != "4:2 4:3 5:2 5:3 " || names(k) != path+" z" || k.Memory().Used() != used {
		t.Errorf("P21.6: %s, %s, used %d, not %d", heard(k, from), names(k), k.Memory().Used(), used)
	}
	expect(t, "P21.6: terminators", k, 1, 4, 2, 52, 62, 61, 102, 104)
	o = k.Objects()
	if !o[2].Gone || !o[3].Gone || o[2].Count != 0 || o[0].Gone || o[2].Path != "/lib64/a" {
		t.Errorf("P21.7: %+v", o)
	}
	for _, f := range []func() error{func() error { return k.Close(h) }, func() error { _, err := k.Sym(h, "", ""); return err }} {
		if err := f(); !isFault(err, "", "", api.ErrState) {
			t.Errorf("P21.6: a handle that is gone: %v", err)
		}
	}
	if again := open(t, k, "a", false, false); again != 5 || k.Objects()[4].Base != libs+0x2000 {
		t.Errorf("P21.4: opened again: handle %d, %x", again, k.Objects()[4].Base)
	}
}

// TestCounts: what is opened twice is closed twice; what another one needs stays.
func TestCounts(t *testing.T) {
	k := start(t, some())
	a, b := open(t, k, "a", false, false), open(t, k, "b", false, false)
	if a != 3 || b != 5 || open(t, k, "soa", false, false) != a || open(t, k, "/lib64/a", false, false) != a || k.Objects()[2].Count != 3 {
		t.Errorf("P21.4: handles %d, %d, %+v", a, b, k.Objects()[2])
	}
	expect(t, "P21.4: begun once", k, 1, 4, 2, 3)
	for range 2 {
		shut(t, k, a)
	}
	if names(k) != path+" z a c b" {
		t.Errorf("P21.6: %s", names(k))
	}
	shut(t, k, a)
	expect(t, "P21.6: the last one", k, 1, 4, 2, 3, 102)
	if names(k) != path+" z c b" {
		t.Errorf("P21.6: %s", names(k))
	}
	c := open(t, k, "c", false, false)
	shut(t, k, b)
	if names(k) != path+" z c" || c != 4 {
		t.Errorf("P21.6: %s", names(k))
	}
	shut(t, k, c)
	if names(k) != path+" z" {
		t.Errorf("P21.6: %s", names(k))
	}
}

// TestHandles: what is no handle, and what may not be closed.
func TestHandles(t *testing.T) {
	k := start(t, some())
	for _, h := range []int{-1, 0, 3, math.MaxInt, math.MinInt} {
		if err := k.Close(h); !isFault(err, "", "", api.ErrState) {
			t.Errorf("P21.6: Close(%d): %v", h, err)
		}
		if a, err := k.Sym(h, "fz", ""); h != 0 && (a != 0 || !isFault(err, "", "fz", api.ErrState)) {
			t.Errorf("P21.5: Sym(%d): %v", h, err)
		}
	}
	for _, h := range []int{1, 2} {
		if err := k.Close(h); !isFault(err, "", "", api.ErrState) {
			t.Errorf("P21.6: of the start, Close(%d): %v", h, err)
		}
		find(t, k, h, "fz", "")
	}
	if _, err := k.Sym(2, "fa", ""); !isFault(err, "", "fa", api.ErrSymbol) {
		t.Errorf("P21.5: %v", err)
	}
	if h := open(t, k, "", false, false); h != 1 || k.Objects()[0].Count != 2 {
		t.Errorf("P21.4: the program: %d", h)
	}
	shut(t, k, 1)
	if h := open(t, k, "z", true, true); h != 2 || k.Objects()[1].Count != 2 {
		t.Errorf("P21.4: one of the start: %d", h)
	}
	shut(t, k, 2)
	if err := k.Close(2); !isFault(err, "", "", api.ErrState) || names(k) != path+" z" {
		t.Errorf("P21.6: %v", err)
	}
	a := open(t, k, "a", false, false)
	if _, err := k.Sym(a+1, "fc", ""); !isFault(err, "", "fc", api.ErrState) {
		t.Errorf("P21.5: a count of 0: %v", err)
	}
	if err := k.Close(a + 1); !isFault(err, "", "", api.ErrState) {
		t.Errorf("P21.6: a count of 0: %v", err)
	}
	find(t, k, a, "fc", "")
}

// TestGlobal: what is opened globally is found by all, behind what was there.
func TestGlobal(t *testing.T) {
	l := some()
	user := lib("")
	user.Func("use")
	user.CallLater("fc")
	user.Ret()
	l["/lib64/user"] = user
	k := start(t, l)
	u := open(t, k, "user", false, false)
	use := find(t, k, u, "use", "")
	if _, err := k.Call(0, use); !isFault(err, "/lib64/user", "fc", api.ErrSymbol) {
		t.Errorf("P21.4: %v", err)
	}
	a := open(t, k, "a", false, false)
	if _, err := k.Call(0, use); !isFault(err, "/lib64/user", "fc", api.ErrSymbol) {
		t.Errorf("P21.4: not global: %v", err)
	}
	if open(t, k, "a", true, false) != a || !slices.Equal(k.Scope(), []int{0, 1, 3, 4}) || !k.Objects()[4].Global {
		t.Errorf("P21.4: scope %v", k.Scope())
	}
	if v := call(t, k, use); v != 54 {
		t.Errorf("P21.4: %d", v)
	}
	if v := call(t, k, find(t, k, 0, "who", "")); v != 61 {
		t.Errorf("P21.5: %d", v)
	}
	shut(t, k, a)
	shut(t, k, a)
	if !slices.Equal(k.Scope(), []int{0, 1}) {
		t.Errorf("P21.6: scope %v", k.Scope())
	}
	if _, err := k.Call(0, use); !isFault(err, "", "", api.ErrGuest) {
		t.Errorf("P21.6: the slot goes where nothing is: %v", err)
	}
}

// TestOwnScope: what comes with an opened object looks in what that needs, by breadth, behind the global scope.
func TestOwnScope(t *testing.T) {
	l := some()
	x, y := lib("", "c"), lib("", "x", "a")
	x.Func("use")
	x.Call("who")
	x.Ret()
	x.Func("need")
	x.Call("fc")
	x.Ret()
	l["/lib64/x"], l["/lib64/y"] = x, y
	k := start(t, l)
	h := open(t, k, "y", false, false)
	if v := call(t, k, find(t, k, h, "use", "")); v != 61 {
		t.Errorf("P21.4: the global scope goes ahead: %d", v)
	}
	if v := call(t, k, find(t, k, h, "need", "")); v != 54 {
		t.Errorf("P21.4: its own scope: %d", v)
	}
	delete(l, path)
	l[path] = prog()
	l[path].Ret()
	k = start(t, l)
	h = open(t, k, "y", false, false)
	if v := call(t, k, find(t, k, h, "use", "")); v != 62 {
		t.Errorf("P21.4: the scope of y, with which x came: %d", v)
	}
	if v := call(t, k, find(t, k, h, "who", "")); v != 62 {
		t.Errorf("P21.5: the scope of the handle, by breadth: %d", v)
	}
	k = start(t, l)
	h = open(t, k, "x", false, false)
	if v := call(t, k, find(t, k, h, "use", "")); v != 64 {
		t.Errorf("P21.4: x opened by itself: %d", v)
	}
	if y := open(t, k, "y", false, false); call(t, k, find(t, k, y, "use", "")) != 64 {
		t.Error("P21.4: x was there ahead of y")
	}
}

// asking is a program, and low, which asks for k at once and at a first call, and mid, which needs low, and top, which needs mid and defines k.
func asking() files {
	p := prog()
	p.Ret()
	low, mid, top := lib(""), lib("", "low"), lib("", "mid")
	low.Func("early")
	low.Call("k")
	low.Ret()
	low.Func("late")
	low.CallLater("k")
	low.Ret()
	top.Traps("k", 81)
	return files{path: p, "/lib64/low": low, "/lib64/mid": mid, "/lib64/top": top}
}

// TestOpenedDefines: what comes with an opened object finds what that defines, however far below it, and nobody else does.
func TestOpenedDefines(t *testing.T) {
	for _, now := range []bool{false, true} {
		s := setup()
		s.Now = now
		k := startWith(t, s, asking())
		if h, err := k.Open("mid", false, false); h != 0 || !isFault(err, "/lib64/low", "k", api.ErrSymbol) {
			t.Errorf("P21.4: without top: %d, %v", h, err)
		}
		h := open(t, k, "top", false, !now)
		for _, name := range []string{"early", "late"} {
			if v := call(t, k, find(t, k, h, name, "")); v != 81 {
				t.Errorf("P21.4: %s: %d", name, v)
			}
		}
		if l := tied(k); len(l) != 2 || l[0] != l[1] || l[0] != (api.Audit{Kind: api.Tied, Object: 3, Other: 1, Name: "k"}) {
			t.Errorf("P21.4: an auditor heard %+v", l)
		}
		if _, err := k.Sym(0, "k", ""); !isFault(err, "", "k", api.ErrSymbol) || !slices.Equal(k.Scope(), []int{0}) {
			t.Errorf("P21.4: it isn't global: %v, %v", err, k.Scope())
		}
	}
}

// TestOpenedAhead: what was there ahead of an opened object keeps its own scope, and what comes later has another one.
func TestOpenedAhead(t *testing.T) {
	l := asking()
	user := lib("", "mid")
	user.Func("mine")
	user.CallLater("k")
	user.Ret()
	low := lib("")
	low.Func("late")
	low.CallLater("k")
	low.Ret()
	l["/lib64/low"], l["/lib64/user"] = low, user
	k := start(t, l)
	m := open(t, k, "mid", false, false)
	top := open(t, k, "top", false, false)
	for _, h := range []int{m, top} {
		if _, err := k.Call(0, find(t, k, h, "late", "")); !isFault(err, "/lib64/low", "k", api.ErrSymbol) {
			t.Errorf("P21.4: low came with mid: %v", err)
		}
	}
	u := open(t, k, "user", false, false)
	if _, err := k.Call(0, find(t, k, u, "mine", "")); !isFault(err, "/lib64/user", "k", api.ErrSymbol) {
		t.Errorf("P21.4: user needs no top: %v", err)
	}
}

// TestGoneScope: what is gone means nothing any more to those that came with it and stay.
func TestGoneScope(t *testing.T) {
	l := asking()
	l["/lib64/top"].Traps("other", 82)
	l["/lib64/mid"].Traps("other", 83)
	low := l["/lib64/low"]
	low.Func("more")
	low.CallLater("other")
	low.Ret()
	k := start(t, l)
	h := open(t, k, "top", false, false)
	late, early, more := find(t, k, h, "late", ""), find(t, k, h, "early", ""), find(t, k, h, "more", "")
	open(t, k, "mid", false, false)
	shut(t, k, h)
	if names(k) != path+" mid low" {
		t.Errorf("P21.6: %s", names(k))
	}
	from := len(k.Audit())
	if _, err := k.Call(0, late); !isFault(err, "/lib64/low", "k", api.ErrSymbol) {
		t.Errorf("P21.6: bound behind the end: %v", err)
	}
	if _, err := k.Call(0, early); !isFault(err, "", "", api.ErrGuest) {
		t.Errorf("P21.6: bound ahead of it, to where nothing is: %v", err)
	}
	if v := call(t, k, more); v != 83 || heard(k, from) != "3:3 " {
		t.Errorf("P21.6: the next one that is left: %d, %s", v, heard(k, from))
	}
}

// TestNow: at once, or at the first call.
func TestNow(t *testing.T) {
	l := some()
	x := lib("")
	x.Func("use")
	x.CallLater("none")
	x.Ret()
	l["/lib64/x"] = x
	k := start(t, l)
	if _, err := k.Open("x", false, true); !isFault(err, "/lib64/x", "none", api.ErrSymbol) {
		t.Errorf("P21.4: %v", err)
	}
	h := open(t, k, "x", false, false)
	if _, err := k.Call(0, find(t, k, h, "use", "")); !isFault(err, "/lib64/x", "none", api.ErrSymbol) {
		t.Errorf("P21.4: %v", err)
	}
	s := setup()
	s.Now = true
	if _, err := startWith(t, s, l).Open("x", false, false); !isFault(err, "/lib64/x", "none", api.ErrSymbol) {
		t.Errorf("P21.4: the setup's Now: %v", err)
	}
	x.Plan.Flags = 8
	if _, err := start(t, l).Open("x", false, false); !isFault(err, "/lib64/x", "none", api.ErrSymbol) {
		t.Errorf("P21.4: BindNow: %v", err)
	}
}

// TestOpenFaults: with a fault nothing has changed, but the fuel.
func TestOpenFaults(t *testing.T) {
	l := some()
	late := lib("", "c")
	late.Init()
	late.Trap(1)
	late.Raw(0x06)
	late.Plan.HasTLS, late.Plan.TLSAlign = true, 1
	l["/lib64/late"] = late
	l["/lib64/needs"] = lib("", "c", "none")
	l["/lib64/deep"] = lib("", "needs")
	v := lib("", "c")
	v.Import(api.PlanSym{Name: "fc", Bind: api.Weak, Version: "V", File: "c"})
	l["/lib64/v"] = v
	l["/lib64/c"].Plan.Syms[0].Version = "W"
	sym := lib("", "c")
	sym.Slot(6, sym.Import(sample.Want("none")), 0)
	l["/lib64/sym"] = sym
	large := lib("")
	large.Plan.HasTLS, large.Plan.TLSAlign, large.Plan.TLSSize = true, 4096, 1<<20
	l["/lib64/large"] = large
	fixed := lib("")
	fixed.Plan.Type = api.Exec
	l["/lib64/fixed"] = fixed
	room := lib("")
	room.Plan.Bss = 1 << 20
	l["/lib64/room"] = room
	s := setup()
	s.Quota = 200
	tr := tree(t, l, api.Node{Path: "/lib64/text", Data: []byte("x")})
	k, err := link.Start(tr, s)
	if err != nil {
		t.Fatal(err)
	}
	before, err := link.Start(tr, s)
	if err != nil {
		t.Fatal(err)
	}
	for _, c := range []struct {
		name, object, told string
		err                api.Code
	}{
		{"nothing", path, "nothing", api.ErrFind}, {"/none/x", path, "/none/x", api.ErrFind}, {"needs", "/lib64/needs", "none", api.ErrFind}, {"deep", "/lib64/needs", "none", api.ErrFind}, {"text", "/lib64/text", "", api.ErrRange},
		{"v", "/lib64/v", "V", api.ErrVersion}, {"sym", "/lib64/sym", "none", api.ErrSymbol}, {"late", "/lib64/late", "", api.ErrGuest}, {"fixed", "/lib64/fixed", "", api.ErrForm}, {"room", "/lib64/room", "", api.ErrFull},
	} {
		if h, err := k.Open(c.name, true, false); h != 0 || !isFault(err, c.object, c.told, c.err) {
			t.Errorf("P21.4: Open %s: %v", c.name, err)
		}
		alike(t, "P21.4: behind "+c.name, before, k)
	}
	if k.Fuel() >= before.Fuel() {
		t.Errorf("P21.4: no fuel was used")
	}
	if h := open(t, k, "c", false, false); h != 3 || k.Objects()[2].Base != libs+0x2000 {
		t.Errorf("P21.4: %d, %x", h, k.Objects()[2].Base)
	}
	if h := open(t, k, "large", false, false); h != 4 || k.Objects()[3].Module != 1 {
		t.Errorf("P21.4: %d, %+v", h, k.Objects()[3])
	}
}

// TestOpenModule: modules of thread-local storage that come later.
func TestOpenModule(t *testing.T) {
	l := some()
	for _, name := range []string{"a", "c"} {
		x := l["/lib64/"+name]
		x.Plan.HasTLS, x.Plan.TLSSize, x.Plan.TLSAlign, x.Plan.TLS = true, 16, 8, []byte(name)
		x.Symbol(api.PlanSym{Name: "t" + name, Bind: api.Global, Type: api.TLS, Where: api.InTLS, Off: 8})
	}
	k := start(t, l)
	a := open(t, k, "a", false, false)
	if o := k.Objects(); o[2].Module != 1 || o[3].Module != 2 || o[1].Module != 0 {
		t.Errorf("P21.4: %+v", o)
	}
	if open(t, k, "b", false, false); k.Objects()[4].Module != 0 {
		t.Errorf("P21.4: %+v", k.Objects()[4])
	}
	shut(t, k, 5)
	at := find(t, k, a, "tc", "")
	if b, err := k.Local(0, 2, 8); b != at || err != nil || word(t, k, at-8) != 'c' {
		t.Errorf("P21.5: %x, %x, %v", at, b, err)
	}
	shut(t, k, a)
	if _, err := k.Local(0, 2, 0); !isFault(err, "", "", api.ErrNone) {
		t.Errorf("P21.6: %v", err)
	}
	a = open(t, k, "a", false, false)
	if o := k.Objects(); o[5].Module != 3 || o[6].Module != 4 {
		t.Errorf("P21.4: numbers aren't given again: %+v", o)
	}
	x := l["/lib64/c"]
	x.Slot(18, len(x.Plan.Syms), 0)
	if _, err := start(t, l).Open("a", false, false); !isFault(err, "/lib64/c", "tc", api.ErrTLS) {
		t.Errorf("P21.4: %v", err)
	}
	wide := lib("")
	wide.Plan.HasTLS, wide.Plan.TLSSize, wide.Plan.TLSAlign = true, 8, 4096
	b, err := wide.File()
	if err != nil {
		t.Fatal(err)
	}
	b[64+3*56+49] = 0x20 // its fourth header asks for 8192
	k = start(t, some(), api.Node{Path: "/lib64/wide", Data: b})
	if _, err := k.Open("wide", false, false); !isFault(err, "/lib64/wide", "", api.ErrTLS) {
		t.Errorf("P21.4: %v", err)
	}
	odd := lib("")
	odd.Symbol(api.PlanSym{Name: "t", Bind: api.Global, Type: api.TLS, Where: api.Absolute, Off: 8})
	l["/lib64/odd"] = odd
	delete(l, "/lib64/c")
	l["/lib64/c"] = lib("")
	k = start(t, l)
	h := open(t, k, "odd", false, false)
	if _, err := k.Sym(h, "t", ""); !isFault(err, "/lib64/odd", "t", api.ErrTLS) {
		t.Errorf("P21.5: no module: %v", err)
	}
}

// TestSymFull: with a fault of Sym nothing has changed.
func TestSymFull(t *testing.T) {
	l := some()
	x := lib("")
	x.Plan.HasTLS, x.Plan.TLSSize, x.Plan.TLSAlign = true, 10*api.Page, 1
	x.Symbol(api.PlanSym{Name: "t", Bind: api.Global, Type: api.TLS, Where: api.InTLS, Off: 8})
	l["/lib64/x"] = x
	s := setup()
	s.Quota = 19
	k, other := startWith(t, s, l), startWith(t, s, l)
	h := open(t, k, "x", false, false)
	open(t, other, "x", false, false)
	if _, err := k.Sym(h, "t", ""); !isFault(err, "/lib64/x", "t", api.ErrTLS) {
		t.Errorf("P21.5: %v", err)
	}
	alike(t, "P21.5: a fault", other, k)
}

// TestAbsolute: a number by itself isn't moved.
func TestAbsolute(t *testing.T) {
	x := lib("")
	x.Symbol(api.PlanSym{Name: "n", Bind: api.Global, Where: api.Absolute, Off: 0x1234})
	x.Symbol(api.PlanSym{Name: "zero", Bind: api.Weak, Where: api.Absolute})
	x.Symbol(api.PlanSym{Name: "hid", Bind: api.Global, Vis: api.Hidden, Where: api.Absolute, Off: 5})
	p := prog("x")
	p.Ret()
	k := start(t, files{path: p, "/lib64/x": x})
	if a, b := find(t, k, 0, "n", ""), find(t, k, 2, "zero", ""); a != 0x1234 || b != 0 {
		t.Errorf("P21.5: %x, %x", a, b)
	}
	if _, err := k.Sym(0, "hid", ""); !isFault(err, "", "hid", api.ErrSymbol) {
		t.Errorf("P21.5: %v", err)
	}
}

// TestTerminators: the array from its end, then Fini; of several objects those that need others ahead of these.
func TestTerminators(t *testing.T) {
	l := some()
	a := l["/lib64/a"]
	a.Fini()
	a.Trap(71)
	a.Ret()
	a.Plan.HasFini, a.Plan.Fini = true, a.Here()
	a.Trap(72)
	a.Ret()
	a.Plan.Needed = []string{"c", "b"}
	k := start(t, l)
	h := open(t, k, "a", true, false)
	before := len(k.Events())
	from := len(k.Audit())
	shut(t, k, h)
	var got []uint64
	for _, e := range k.Events()[before:] {
		got = append(got, e.Rax)
	}
	if !slices.Equal(got, []uint64{71, 102, 72, 103, 104}) || heard(k, from) != "4:2 4:4 4:3 5:2 5:3 5:4 " {
		t.Errorf("P21.6: %d, %s", got, heard(k, from))
	}
}

// TestCloseFaults: with a fault nothing has changed, but the fuel.
func TestCloseFaults(t *testing.T) {
	l := some()
	a := l["/lib64/a"]
	off := a.Word(0)
	a.Fini()
	a.Reach(off, 0x48, 0x89, 0x25)
	a.Ret()
	c := l["/lib64/c"]
	c.Fini()
	c.Raw(0x06)
	k, other := start(t, l), start(t, l)
	h := open(t, k, "a", true, false)
	open(t, other, "a", true, false)
	if err := k.Close(h); !isFault(err, "/lib64/c", "", api.ErrGuest) {
		t.Errorf("P21.6: %v", err)
	}
	alike(t, "P21.6: a fault", other, k)
	if k.Fuel() >= other.Fuel() {
		t.Error("P21.6: no fuel was used")
	}
	find(t, k, h, "fa", "")
}

// TestFiniArray: one that isn't there, and one that is too long.
func TestFiniArray(t *testing.T) {
	for _, size := range []uint64{0x80000, 0x100001, 1 << 63} {
		b, err := begins("", 5).File()
		if err != nil || !setTag(b, 28, size) {
			t.Fatal(err)
		}
		l, x := some(), api.Node{Path: "/lib64/x", Data: b}
		k, other := start(t, l, x), start(t, l, x)
		h := open(t, k, "x", false, false)
		open(t, other, "x", false, false)
		if err := k.Close(h); !isFault(err, "/lib64/x", "", api.ErrGuest) {
			t.Errorf("P21.6: an array of %x bytes: %v", size, err)
		}
		alike(t, "P21.6: an array amiss", other, k)
	}
}

// TestKeep: what is to stay stays, and what it needs.
func TestKeep(t *testing.T) {
	l := some()
	l["/lib64/a"].Plan.Flags1 = 8
	l["/lib64/c"].Plan.Flags1 = math.MaxUint64 &^ 8
	k := start(t, l)
	a, b := open(t, k, "a", true, false), open(t, k, "b", false, false)
	shut(t, k, a)
	shut(t, k, b)
	if names(k) != path+" z a c" || k.Objects()[2].Count != 0 {
		t.Errorf("P21.6: %s", names(k))
	}
	if _, err := k.Sym(a, "fa", ""); !isFault(err, "", "fa", api.ErrState) {
		t.Errorf("P21.5: %v", err)
	}
	if open(t, k, "a", false, false) != a {
		t.Error("P21.4: opened again")
	}
	c := start(t, l)
	shut(t, c, open(t, c, "c", false, false))
	if names(c) != path+" z" {
		t.Errorf("P21.6: other bits: %s", names(c))
	}
}

// TestRing: a ring of libraries goes all together.
func TestRing(t *testing.T) {
	l := some()
	l["/lib64/c"].Plan.Needed = []string{"b"}
	k := start(t, l)
	h := open(t, k, "b", false, false)
	expect(t, "P21.4: the first that is reached is begun last", k, 1, 4, 3)
	shut(t, k, h)
	expect(t, "P21.6: and ended first", k, 1, 4, 3, 103, 104)
	if names(k) != path+" z" {
		t.Errorf("P21.6: %s", names(k))
	}
}

// TestGoneNames: what is gone is found by nobody, and its versions neither.
func TestGoneNames(t *testing.T) {
	l := some()
	l["/lib64/a"].Plan.Syms[0].Version = "V"
	l["/lib64/a"].Plan.Needed = nil
	user := lib("")
	user.Import(api.PlanSym{Name: "fa", Bind: api.Weak, Version: "V", File: "a"})
	l["/lib64/user"] = user
	k := start(t, l)
	a := open(t, k, "a", true, false)
	u := open(t, k, "user", false, false)
	shut(t, k, u)
	shut(t, k, a)
	if _, err := k.Open("user", false, false); !isFault(err, "/lib64/user", "V", api.ErrVersion) {
		t.Errorf("P21.4: %v", err)
	}
	if h := open(t, k, "a", false, false); h != 5 {
		t.Errorf("P21.4: handle %d", h)
	}
	open(t, k, "user", false, false)
}

// ofNoFile is a library that needs the version V of the file of the empty name, which a plan can't tell.
func ofNoFile(t *testing.T) api.Node {
	t.Helper()
	x := lib("souser")
	x.Import(api.PlanSym{Name: "fa", Bind: api.Weak, Version: "V", File: "x"})
	b, err := x.File()
	if err != nil {
		t.Fatal(err)
	}
	o, err := object.Parse(b)
	if err != nil {
		t.Fatal(err)
	}
	copy(b[o.Dyn.Verneed+4:], []byte{0, 0, 0, 0}) // the strings begin with an empty one
	if o, err = object.Parse(b); err != nil || len(o.Vers.Needs) != 1 || o.Vers.Needs[0].File != "" || o.Vers.Needs[0].Aux[0].Name != "V" {
		t.Fatalf("%+v, %v", o.Vers, err)
	}
	return api.Node{Path: "/lib64/user", Data: b}
}

// TestGoneVersions: what is gone is still among the objects whose versions are asked: an empty one, at its number, without a name.
func TestGoneVersions(t *testing.T) {
	amiss := func(what string, k *link.Link) {
		t.Helper()
		before := len(k.Objects())
		if h, err := k.Open("user", false, false); h != 0 || !isFault(err, "/lib64/user", "V", api.ErrVersion) || len(k.Objects()) != before {
			t.Errorf("P21.4: %s: %d, %v", what, h, err)
		}
	}
	user := ofNoFile(t)
	l := some()
	l[path].Plan.HasSoname, l[path].Plan.Soname = true, "p"
	l["/lib64/a"].Plan.Syms[0].Version = "W" // what it defined counts no more, when it is gone
	k := start(t, l, user)
	amiss("nobody goes by it", k)
	h := open(t, k, "a", true, false)
	amiss("nobody goes by it, nobody is gone", k)
	shut(t, k, h)
	if u := open(t, k, "user", false, false); u != 5 || names(k) != path+" z user" {
		t.Errorf("P21.4: behind what is gone: handle %d, %s", u, names(k))
	}
	h = open(t, k, "b", false, false)
	shut(t, k, h)
	if again := open(t, k, "user", false, false); again != 5 {
		t.Errorf("P21.4: handle %d", again)
	}

	// what goes by the empty name, and has other definitions, counts, if it stands ahead of what is gone
	other := lib("")
	other.Traps("g", 9).Version = "W"
	l["/lib64/other"] = other
	k = start(t, l, user)
	first := open(t, k, "other", false, false)
	amiss("what isn't gone, without a Soname", k)
	shut(t, k, open(t, k, "a", false, false))
	amiss("what isn't gone, ahead of what is", k)
	shut(t, k, first)
	open(t, k, "other", false, false)
	if u := open(t, k, "user", false, false); u != 7 {
		t.Errorf("P21.4: what is gone, ahead of what isn't: handle %d", u)
	}
}

// TestGoneSlots: a slot of what is gone is none.
func TestGoneSlots(t *testing.T) {
	l := some()
	p := prog("z")
	p.Func("ask")
	p.Raw(0x56, 0x57)
	p.Reach(p.Word(api.LinkerPage+16), 0xff, 0x25)
	l[path] = p
	a := l["/lib64/a"]
	a.Func("way")
	a.CallLater("fc")
	a.Ret()
	k := start(t, l)
	ask := find(t, k, 1, "ask", "")
	h := open(t, k, "a", false, false)
	if v := call(t, k, ask, 2, 0); v != 54 {
		t.Errorf("P21.3: %d", v)
	}
	shut(t, k, h)
	if _, err := k.Call(0, ask, 2, 0); !isFault(err, "", "", api.ErrGuest) {
		t.Errorf("P21.3: %v", err)
	}
}

// TestSame: every answer hangs on the tree, the setup and the calls alone; early and late a call of a symbol goes to the same address.
func TestSame(t *testing.T) {
	l := some()
	l[path].CallLater("fz")
	s := setup()
	play := func(now bool) *link.Link {
		s.Now = now
		k := startWith(t, s, l)
		h := open(t, k, "a", true, false)
		call(t, k, find(t, k, h, "fc", ""))
		open(t, k, "b", false, true)
		shut(t, k, h)
		run(t, k)
		return k
	}
	a, b, early := play(false), play(false), play(true)
	alike(t, "P21.8", a, b)
	if a.Fuel() != b.Fuel() || !slices.Equal(a.Events(), early.Events()) {
		t.Errorf("P21.8: %v, %v", a.Events(), early.Events())
	}
	if find(t, a, 0, "fz", "") != find(t, early, 0, "fz", "") {
		t.Error("P21.8: another address")
	}
}
