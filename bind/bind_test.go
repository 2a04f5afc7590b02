package bind_test

import (
	"encoding/binary"
	"math"
	"slices"
	"testing"

	"shackle/api"
	"shackle/bind"
)

// object is an object of some symbols behind the first one, which are found in their order.
func object(l ...api.Symbol) api.Object {
	syms := append([]api.Symbol{{}}, l...)
	table := []uint32{1, uint32(len(syms)), 1 % uint32(len(syms))}
	for i := range syms {
		next := uint32(0)
		if i > 0 && i+1 < len(syms) {
			next = uint32(i + 1)
		}
		table = append(table, next)
	}
	var b []byte
	for _, w := range table {
		b = binary.LittleEndian.AppendUint32(b, w)
	}
	return api.Object{Syms: syms, Bytes: b, Dyn: api.Dyn{Hash: 0x1000}, Head: api.Head{Progs: []api.Prog{{Type: api.PtLoad, Vaddr: 0x1000, Filesz: uint64(len(b))}}}}
}

// broken is an object whose table is amiss.
func broken() api.Object {
	o := object(fun("f"))
	o.Bytes[0] = 0
	return o
}

// fun is a symbol that may be bound.
func fun(name string) api.Symbol {
	return api.Symbol{Name: name, Bind: api.Global, Type: api.Func, Sect: 7, Value: 0x10}
}

// with is an object with versions: the symbols' words behind the first one's, and definitions.
func with(o api.Object, words []int, defs ...api.Verdef) api.Object {
	o.Vers = api.Vers{Has: true, Of: append([]int{0}, words...), Defs: defs}
	return o
}

func needing(o api.Object, needs ...api.Verneed) api.Object {
	o.Vers.Has, o.Vers.Needs = true, needs
	return o
}

func def(index int, name string) api.Verdef { return api.Verdef{Index: index, Name: name} }
func base(index int, name string) api.Verdef {
	return api.Verdef{Index: index, Name: name, Base: true}
}

func TestWants(t *testing.T) {
	o := with(object(fun("a"), fun("b"), fun("c"), fun("d"), fun("e"), fun("g"), fun("h"), fun("i"), fun("j")), []int{0, 1, 2, 0x8003, 4, 5, 9, 0x8002}, base(1, "B"), def(2, "V2"), def(2, "V2again"))
	o = needing(o, api.Verneed{File: "x", Aux: []api.Veraux{{Index: 3, Name: "N3"}}}, api.Verneed{File: "y", Aux: []api.Veraux{{Index: 2, Name: "N2"}, {Index: 4, Name: "N4"}, {Index: 3, Name: "no"}, {Index: 5}}})
	for i, want := range []api.Want{{}, {Name: "a"}, {Name: "b"}, {Name: "c", Version: "V2"}, {Name: "d", Version: "N3", File: "x"}, {Name: "e", Version: "N4", File: "y"}, {Name: "g", File: "y"}, {Name: "h"}, {Name: "i", Version: "V2"}, {Name: "j"}} {
		if w, err := bind.Wants(o, i); w != want || err != nil {
			t.Errorf("P17.1: of symbol %d: %+v, %v, not %+v", i, w, err, want)
		}
	}
	one := with(object(fun("a")), []int{1}, base(1, "B"), def(1, "V1"), def(1, "later"))
	if w, err := bind.Wants(one, 1); w != (api.Want{Name: "a", Version: "V1"}) || err != nil {
		t.Errorf("P17.1: the index 1: %+v, %v", w, err)
	}
	one.Vers.Has = false
	if w, err := bind.Wants(one, 1); w != (api.Want{Name: "a"}) || err != nil {
		t.Errorf("P17.1: without versions: %+v, %v", w, err)
	}
	if w, err := bind.Wants(with(object(fun("a")), []int{2}, base(2, "B")), 1); w.Version != "B" || err != nil {
		t.Errorf("P17.1: a Base that isn't 1: %+v, %v", w, err)
	}
	for _, i := range []int{-1, 10, math.MinInt, math.MaxInt} {
		if w, err := bind.Wants(o, i); w != (api.Want{}) || err != api.ErrArg {
			t.Errorf("P17.1: of symbol %d: %+v, %v", i, w, err)
		}
	}
}

func TestOwn(t *testing.T) {
	for _, b := range []int{api.Local, api.Global, api.Weak} {
		for vis := range 4 {
			for _, sect := range []int{0, 7, 0xfff1} {
				o := object(api.Symbol{Name: "f", Bind: b, Vis: vis, Sect: sect})
				own, err := bind.Own(o, 1)
				if want := b == api.Local || sect != 0 && vis != api.Default; own != want || err != nil {
					t.Errorf("P17.2: bind %d, vis %d, section %x: %v, %v", b, vis, sect, own, err)
				}
			}
		}
	}
	for _, i := range []int{-1, 2, math.MaxInt} {
		if own, err := bind.Own(object(fun("f")), i); own || err != api.ErrArg {
			t.Errorf("P17.2: of symbol %d: %v, %v", i, own, err)
		}
	}
}

// TestMayBind: which symbols may be bound.
func TestMayBind(t *testing.T) {
	for _, b := range []int{api.Local, api.Global, api.Weak, 3} {
		for vis := range 4 {
			for _, sect := range []int{0, 7, 0xfff1} {
				for kind := range 16 {
					for _, value := range []uint64{0, 5} {
						o := object(api.Symbol{Name: "f", Bind: b, Type: kind, Vis: vis, Sect: sect, Value: value})
						may := (b == api.Global || b == api.Weak) && (vis == api.Default || vis == api.Protected) && sect != 0 &&
							slices.Contains([]int{api.NoType, api.Data, api.Func, api.TLS, api.Ifunc}, kind) && (kind == api.TLS || sect == 0xfff1 || value != 0)
						want := -1
						if may {
							want = 1
						}
						if i, err := bind.In(o, api.Want{Name: "f"}); i != want || err != nil {
							t.Errorf("P17.3: %+v: %d, %v", o.Syms[1], i, err)
						}
					}
				}
			}
		}
	}
}

// TestFits: which words fit which wants.
func TestFits(t *testing.T) {
	f := object(fun("f"))
	needed := api.Verneed{File: "x", Aux: []api.Veraux{{Index: 3, Name: "V3"}}}
	for _, c := range []struct {
		what       string
		o          api.Object
		plain      int
		v1, v9, vB int
		v3         int
	}{
		{"without versions", f, 1, 1, 1, 1, 1},
		{"no word", with(f, nil, def(2, "V1")), 1, 1, 1, 1, 1},
		{"versions that aren't there", api.Object{Syms: f.Syms, Bytes: f.Bytes, Dyn: f.Dyn, Head: f.Head, Vers: api.Vers{Of: []int{0, 0x8002}, Defs: []api.Verdef{def(2, "V1")}}}, 1, 1, 1, 1, 1},
		{"2", with(f, []int{2}, def(2, "V1")), 1, 1, -1, -1, -1},
		{"2 hidden", with(f, []int{0x8002}, def(2, "V1")), -1, 1, -1, -1, -1},
		{"0", with(f, []int{0}, def(2, "V1")), 1, 1, 1, 1, 1}, {"0 hidden", with(f, []int{0x8000}, def(2, "V1")), -1, -1, -1, -1, -1},
		{"1", with(f, []int{1}), 1, 1, 1, 1, 1}, {"1 hidden", with(f, []int{0x8001}), -1, -1, -1, -1, -1},
		{"1, a Base", with(f, []int{1}, base(1, "VB")), 1, 1, 1, 1, 1}, {"1, no Base", with(f, []int{1}, base(1, "VB"), def(1, "V1")), 1, 1, -1, -1, -1},
		{"2, a Base", with(f, []int{2}, base(2, "VB")), 1, -1, -1, 1, -1},
		{"3, needed", needing(with(f, []int{3}), needed), 1, -1, -1, -1, 1}, {"3 hidden, needed", needing(with(f, []int{0x8003}), needed), -1, -1, -1, -1, 1},
		{"3, defined and needed", needing(with(f, []int{3}, def(3, "V1")), needed), 1, 1, -1, -1, -1},
		{"4, of nothing", needing(with(f, []int{4}, def(2, "V1")), needed), 1, 1, 1, 1, 1},
		{"the first of two", with(f, []int{2}, def(2, "V1"), def(2, "V9")), 1, 1, -1, -1, -1},
	} {
		for version, want := range map[string]int{"": c.plain, "V1": c.v1, "V9": c.v9, "VB": c.vB, "V3": c.v3} {
			if i, err := bind.In(c.o, api.Want{Name: "f", Version: version, File: "whatever"}); i != want || err != nil {
				t.Errorf("P17.3: %s: version %q: %d, %v", c.what, version, i, err)
			}
		}
	}
}

func TestIn(t *testing.T) {
	hidden := fun("f")
	hidden.Vis = api.Hidden
	o := with(object(fun("g"), hidden, fun("f"), fun("f"), fun("f")), []int{0, 0, 0x8002, 3, 2}, def(2, "V2"), def(3, "V3"))
	for _, c := range []struct {
		name, version string
		want          int
	}{{"f", "", 4}, {"f", "V2", 3}, {"f", "V3", 4}, {"f", "V4", -1}, {"g", "", 1}, {"g", "V4", 1}, {"h", "", -1}, {"", "", -1}} {
		if i, err := bind.In(o, api.Want{Name: c.name, Version: c.version}); i != c.want || err != nil {
			t.Errorf("P17.3: %q, %q: %d, %v", c.name, c.version, i, err)
		}
	}
	if i, err := bind.In(broken(), api.Want{Name: "f"}); i != 0 || err != api.ErrForm {
		t.Errorf("P17.3: a table amiss: %d, %v", i, err)
	}
	if i, err := bind.In(api.Object{}, api.Want{Name: "f"}); i != -1 || err != nil {
		t.Errorf("P17.3: an empty object: %d, %v", i, err)
	}
}

func TestFind(t *testing.T) {
	weak := fun("f")
	weak.Bind = api.Weak
	l := []api.Object{object(fun("g")), object(fun("x"), weak), object(fun("f")), broken(), with(object(fun("f")), []int{0x8002}, def(2, "V1"))}
	none := api.Place{Object: -1, Sym: -1}
	for _, c := range []struct {
		scope []int
		want  api.Want
		place api.Place
		err   error
	}{
		{[]int{0, 1, 2}, api.Want{Name: "f"}, api.Place{Object: 1, Sym: 2}, nil}, {[]int{2, 1}, api.Want{Name: "f"}, api.Place{Object: 2, Sym: 1}, nil}, {[]int{0, 4, 2}, api.Want{Name: "f"}, api.Place{Object: 2, Sym: 1}, nil},
		{[]int{0, 4, 2}, api.Want{Name: "f", Version: "V1"}, api.Place{Object: 4, Sym: 1}, nil}, {[]int{-1, 9, math.MaxInt, math.MinInt, 5, 2}, api.Want{Name: "f"}, api.Place{Object: 2, Sym: 1}, nil},
		{[]int{0, 4}, api.Want{Name: "f"}, none, nil}, {nil, api.Want{Name: "f"}, none, nil}, {[]int{7}, api.Want{Name: "f"}, none, nil},
		{[]int{0, 3, 2}, api.Want{Name: "f"}, api.Place{}, api.ErrForm}, {[]int{2, 3}, api.Want{Name: "f"}, api.Place{Object: 2, Sym: 1}, nil}, {[]int{2, 2, 0}, api.Want{Name: "g"}, api.Place{Object: 0, Sym: 1}, nil},
	} {
		if p, err := bind.Find(l, c.scope, c.want); p != c.place || err != c.err {
			t.Errorf("P17.4: %v, %+v: %+v, %v", c.scope, c.want, p, err)
		}
	}
	if p, err := bind.Find(nil, []int{0}, api.Want{Name: "f"}); p != none || err != nil {
		t.Errorf("P17.4: of no objects: %+v, %v", p, err)
	}
}

// TestFound: what is found has the name and may be bound; objects that aren't named, and those behind, change nothing.
func TestFound(t *testing.T) {
	local := fun("f")
	local.Bind = api.Local
	l := []api.Object{object(local, fun("g")), object(fun("h"), fun("f")), broken(), object(fun("f"))}
	for _, scope := range [][]int{{0, 1}, {0, 1, 2}, {1, 3, 2}, {0, 1, 2, 3}} {
		p, err := bind.Find(l, scope, api.Want{Name: "f"})
		if p != (api.Place{Object: 1, Sym: 2}) || err != nil || l[p.Object].Syms[p.Sym] != fun("f") {
			t.Errorf("P17.6: %v: %+v, %v", scope, p, err)
		}
	}
}

func TestVersions(t *testing.T) {
	aux := func(l ...api.Veraux) api.Verneed { return api.Verneed{File: "lib", Aux: l} }
	v1, weak, v2 := api.Veraux{Name: "V1"}, api.Veraux{Name: "V2", Weak: true}, api.Veraux{Name: "V2"}
	user := func(l ...api.Verneed) api.Object { return needing(api.Object{}, l...) }
	lib := with(api.Object{}, nil, base(1, "lib"), def(2, "V1"))
	named := func(o api.Object, soname string) api.Object { o.Soname, o.Dyn.HasSoname = soname, true; return o }
	for _, c := range []struct {
		what  string
		l     []api.Object
		names []string
		at    int
		want  api.Want
		ok    bool
	}{
		{"nothing", nil, nil, 0, api.Want{}, true},
		{"by name", []api.Object{user(aux(v1)), lib}, []string{"p", "lib"}, 0, api.Want{}, true},
		{"by Soname", []api.Object{user(aux(v1)), named(lib, "lib")}, []string{"p", "other"}, 0, api.Want{}, true},
		{"by Soname, without names", []api.Object{user(aux(v1)), named(lib, "lib")}, nil, 0, api.Want{}, true},
		{"no such object", []api.Object{user(aux(v1)), lib}, []string{"p", "other"}, 0, api.Want{Version: "V1", File: "lib"}, false},
		{"fewer names", []api.Object{user(aux(v1)), lib}, []string{"p"}, 0, api.Want{Version: "V1", File: "lib"}, false},
		{"no such version", []api.Object{lib, user(aux(v1, v2))}, []string{"lib", "p"}, 1, api.Want{Version: "V2", File: "lib"}, false},
		{"a weak one", []api.Object{user(aux(weak)), lib}, []string{"p", "lib"}, 0, api.Want{}, true},
		{"a weak one of no object", []api.Object{user(aux(weak))}, nil, 0, api.Want{}, true},
		{"no definitions", []api.Object{user(aux(v2)), {}}, []string{"p", "lib"}, 0, api.Want{}, true},
		{"the Base", []api.Object{user(aux(api.Veraux{Name: "lib"})), lib}, []string{"p", "lib"}, 0, api.Want{}, true},
		{"the first object", []api.Object{user(aux(v1)), with(api.Object{}, nil, def(2, "V9")), lib}, []string{"p", "lib", "lib"}, 0, api.Want{Version: "V1", File: "lib"}, false},
		{"the first object by Soname", []api.Object{user(aux(v2)), named(api.Object{}, "lib"), lib}, []string{"p", "q", "lib"}, 0, api.Want{}, true},
		{"itself", []api.Object{needing(with(api.Object{}, nil, def(2, "V1")), aux(v1))}, []string{"lib"}, 0, api.Want{}, true},
		{"the first that is amiss", []api.Object{user(aux(v1)), user(aux(v1), aux(weak, v2)), user(api.Verneed{File: "z", Aux: []api.Veraux{v1}}), lib}, []string{"a", "b", "c", "lib"}, 1, api.Want{Version: "V2", File: "lib"}, false},
		{"files in their order", []api.Object{user(api.Verneed{File: "z", Aux: []api.Veraux{v1}}, aux(v2)), lib}, []string{"a", "lib"}, 0, api.Want{Version: "V1", File: "z"}, false},
	} {
		if at, w, ok := bind.Versions(c.l, c.names); at != c.at || w != c.want || ok != c.ok {
			t.Errorf("P17.5: %s: %d, %+v, %v", c.what, at, w, ok)
		}
	}
}

// TestEmptySoname: an empty Soname is the need's empty File, whether the object says that it has one or not.
func TestEmptySoname(t *testing.T) {
	missing := func(file string) api.Want { return api.Want{Version: "V", File: file} }
	need := func(file string) api.Verneed {
		return api.Verneed{File: file, Aux: []api.Veraux{{Index: 9, Name: "V"}}}
	}
	user := func(files ...string) api.Object {
		o := api.Object{Soname: "user"}
		for _, f := range files {
			o = needing(o, append(o.Vers.Needs, need(f))...)
		}
		return o
	}
	for _, has := range []bool{false, true} {
		bare := api.Object{Dyn: api.Dyn{HasSoname: has}}
		other, right := with(bare, nil, def(2, "W")), with(bare, nil, def(2, "W"), def(3, "V"))
		for _, c := range []struct {
			what  string
			l     []api.Object
			names []string
			at    int
			want  api.Want
			ok    bool
		}{
			{"itself, without definitions", []api.Object{needing(bare, need(""))}, nil, 0, api.Want{}, true},
			{"itself, with others", []api.Object{needing(other, need(""))}, nil, 0, missing(""), false},
			{"itself, with that one", []api.Object{needing(right, need(""))}, nil, 0, api.Want{}, true},
			{"asked for by a name", []api.Object{needing(bare, need(""))}, []string{"p"}, 0, api.Want{}, true},
			{"another one, without definitions", []api.Object{user(""), bare}, []string{"p", "q"}, 0, api.Want{}, true},
			{"another one, with others", []api.Object{user(""), other}, []string{"p", "q"}, 0, missing(""), false},
			{"another one, with that one", []api.Object{user(""), right}, []string{"p", "q"}, 0, api.Want{}, true},
			{"the first of two is amiss", []api.Object{other, user(""), right}, []string{"p", "q", "r"}, 1, missing(""), false},
			{"the first of two is right", []api.Object{right, user(""), other}, []string{"p", "q", "r"}, 0, api.Want{}, true},
			{"another file", []api.Object{user("x"), bare}, []string{"p", "q"}, 0, missing("x"), false},
			{"its name", []api.Object{user("q"), bare}, []string{"p", "q"}, 0, api.Want{}, true},
			{"its name and its Soname", []api.Object{user("q", ""), right}, []string{"p", "q"}, 0, api.Want{}, true},
			{"its Soname is amiss behind its name", []api.Object{user("r", ""), other, right}, []string{"p", "q", "r"}, 0, missing(""), false},
		} {
			if at, w, ok := bind.Versions(c.l, c.names); at != c.at || w != c.want || ok != c.ok {
				t.Errorf("P17.5: HasSoname %v: %s: %d, %+v, %v", has, c.what, at, w, ok)
			}
		}
	}
	for _, names := range [][]string{nil, {"p"}, {"p", "q"}} { // all have a Soname, none an empty name
		if at, w, ok := bind.Versions([]api.Object{user("")}, names); at != 0 || w != missing("") || ok {
			t.Errorf("P17.5: nobody goes by it: %d, %+v, %v", at, w, ok)
		}
	}
	if at, w, ok := bind.Versions([]api.Object{user("")}, []string{""}); at != 0 || w != (api.Want{}) || !ok {
		t.Errorf("P17.5: an empty name: %d, %+v, %v", at, w, ok)
	}
}
