package mint_test

import (
	"bytes"
	"fmt"
	"math"
	"math/rand/v2"
	"reflect"
	"slices"
	"strings"
	"testing"

	"shackle/api"
	"shackle/hash"
	"shackle/mint"
	"shackle/object"
	"shackle/place"
)

// encode is a plan's file, decoded, and where its parts lie.
func encode(t *testing.T, p api.Plan) (api.Object, api.Layout) {
	t.Helper()
	b, err := mint.Encode(p)
	if err != nil {
		t.Fatalf("P11.2: Encode: %v", err)
	}
	again, err := mint.Encode(p)
	if err != nil || !bytes.Equal(b, again) {
		t.Fatalf("P11.4: another file, %v", err)
	}
	o, err := object.Parse(b)
	if err != nil {
		t.Fatalf("P11.2: Parse: %v", err)
	}
	w, err := mint.Where(p)
	if err != nil {
		t.Fatalf("P11.3: Where: %v", err)
	}
	return o, w
}

// at is the bytes that a file has at an address.
func at(t *testing.T, o api.Object, addr uint64, n int) []byte {
	t.Helper()
	for _, p := range o.Head.Progs {
		if p.Type == api.PtLoad && addr >= p.Vaddr && addr-p.Vaddr <= p.Filesz && uint64(n) <= p.Filesz-(addr-p.Vaddr) {
			return o.Bytes[p.Off+addr-p.Vaddr:][:n]
		}
	}
	t.Fatalf("P11.2: %d bytes at %x aren't in the file", n, addr)
	return nil
}

// progs is the program headers of a type.
func progs(o api.Object, kind uint32) []api.Prog {
	return slices.DeleteFunc(slices.Clone(o.Head.Progs), func(p api.Prog) bool { return p.Type != kind })
}

// full is a plan with something of everything.
func full() api.Plan {
	return api.Plan{
		Type: api.Shared, Entry: 3, Soname: "lib.so", Rpath: "/r", Runpath: "", HasSoname: true, HasRpath: true, HasRunpath: true,
		Needed: []string{"a.so", "b.so", "a.so"}, Code: []byte("\x90\x90\x90\xf4\xc3 13 byte"), Data: bytes.Repeat([]byte{7}, 100), Bss: 5000,
		HasTLS: true, TLS: []byte{1, 2, 3}, TLSSize: 77, TLSAlign: 128,
		Syms: []api.PlanSym{
			{Name: "f", Bind: api.Global, Type: api.Func, Where: api.InCode, Off: 5, Size: 9, Version: "V2"},
			{Name: "g", Bind: api.Weak, Type: api.NoType, Where: api.Nowhere, Version: "W1", File: "b.so"},
			{Name: "d", Bind: api.Local, Type: api.Data, Vis: api.Hidden, Where: api.InData, Off: 5100, Hidden: true},
			{Name: "t", Bind: api.Global, Type: api.TLS, Where: api.InTLS, Off: 77, Version: "V1", Hidden: true},
			{Name: "n", Bind: api.Global, Type: api.Ifunc, Vis: api.Protected, Where: api.Absolute, Off: math.MaxUint64, Size: math.MaxUint64},
			{Name: "f", Bind: api.Global, Type: api.Func, Where: api.InCode, Version: "V1"},
			{Name: "h", Bind: api.Global, Where: api.Nowhere, Version: "W2", File: "a.so", Off: 99, Hidden: true},
			{Name: "g", Bind: api.Global, Where: api.Nowhere, Version: "W2", File: "b.so"},
			{Name: "i", Bind: api.Global, Where: api.Nowhere, Version: "W1", File: "b.so"},
			{Name: "z", Bind: api.Global, Where: api.Nowhere, File: "\x00"},
		},
		Rels: []api.PlanRel{
			{Where: api.InData, Off: 5092, Type: 6, Sym: 1}, {Where: api.InCode, Type: 0, Sym: 10, From: api.InData, Add: -4},
			{Where: api.InData, Off: 0, Type: math.MaxInt32, From: api.InCode, Add: math.MinInt64},
		},
		Plt:  []api.PlanRel{{Where: api.InData, Off: 40, Type: 7, Sym: 2, Add: math.MaxInt64}},
		Relr: []uint64{0, 8, 24, 88}, Inits: []uint64{0, 5}, Finis: []uint64{1},
		HasInit: true, HasFini: true, HasPltgot: true, Init: 1, Fini: 2, Pltgot: 100, Flags: 4, Flags1: 8, Relro: true,
	}
}

// compare holds all that a plan tells against its file.
func compare(t *testing.T, p api.Plan) {
	t.Helper()
	o, w := encode(t, p)
	segments(t, p, o, w)
	tables(t, p, o, w)
	texts(t, p, o, w)
	symbols(t, p, o, w)
	versions(t, p, o)
	relocations(t, p, o, w)
}

func segments(t *testing.T, p api.Plan, o api.Object, w api.Layout) {
	t.Helper()
	loads := progs(o, api.PtLoad)
	base := map[int]uint64{api.Exec: 0x400000, api.Shared: 0}[p.Type]
	if o.Head.Type != p.Type || len(loads) != 2 || loads[0].Vaddr != base || loads[0].Flags != api.R|api.X || loads[1].Flags != api.R|api.W {
		t.Fatalf("P11.2: %+v", o.Head)
	}
	if o.Head.Entry != w.Code+p.Entry || !bytes.Equal(at(t, o, w.Code, len(p.Code)), p.Code) || !bytes.Equal(at(t, o, w.Data, len(p.Data)), p.Data) {
		t.Errorf("P11.2: entry %x, code %x, data %x", o.Head.Entry, w.Code, w.Data)
	}
	if end := w.Data + uint64(len(p.Data)) + p.Bss; w.Data%16 != 0 || w.Data < loads[1].Vaddr || end > loads[1].Vaddr+loads[1].Memsz || w.Data+uint64(len(p.Data)) < loads[1].Vaddr+loads[1].Filesz && p.Bss > 0 {
		t.Errorf("P11.2: data %x, up to %x, in %+v", w.Data, end, loads[1])
	}
	if w.Code < base || w.Code+uint64(len(p.Code)) > base+loads[0].Filesz {
		t.Errorf("P11.2: code %x in %+v", w.Code, loads[0])
	}
	tls := progs(o, api.PtTLS)
	if !p.HasTLS && (len(tls) != 0 || w.TLS != 0) {
		t.Errorf("P11.2: TLS %x, %+v", w.TLS, tls)
	}
	if p.HasTLS && (len(tls) != 1 || tls[0].Vaddr != w.TLS || w.TLS%p.TLSAlign != 0 || tls[0].Memsz != p.TLSSize || tls[0].Align != p.TLSAlign || !bytes.Equal(o.Bytes[tls[0].Off:][:tls[0].Filesz], p.TLS) || !bytes.Equal(at(t, o, w.TLS, len(p.TLS)), p.TLS)) {
		t.Errorf("P11.2: TLS %x, %+v", w.TLS, tls)
	}
	sealed := progs(o, api.PtRelro)
	if !p.Relro && len(sealed) != 0 {
		t.Errorf("P11.2: %+v", sealed)
	}
	if p.Relro {
		if len(sealed) != 1 || sealed[0].Vaddr%api.Page != 0 || sealed[0].Memsz%api.Page != 0 || sealed[0].Memsz == 0 {
			t.Fatalf("P11.2: %+v", sealed)
		}
		if from, to := sealed[0].Vaddr, sealed[0].Vaddr+sealed[0].Memsz; from < loads[1].Vaddr/api.Page*api.Page || w.Data < to && w.Data+uint64(len(p.Data))+p.Bss > from {
			t.Errorf("P11.2: sealed %+v, data %x", sealed, w.Data)
		}
	}
	if err := place.Check(o); err != nil {
		t.Errorf("P11.2: it can't be mapped: %v", err)
	}
}

// tables: the dynamic section and the arrays.
func tables(t *testing.T, p api.Plan, o api.Object, w api.Layout) {
	t.Helper()
	dyn := progs(o, api.PtDynamic)
	if len(dyn) != 1 || dyn[0].Vaddr != w.Dynamic || !o.Dynamic || !bytes.Equal(at(t, o, w.Dynamic, int(dyn[0].Filesz)), o.Bytes[dyn[0].Off:][:dyn[0].Filesz]) {
		t.Errorf("P11.3: dynamic %x, %+v", w.Dynamic, dyn)
	}
	d := o.Dyn
	want := api.Dyn{Init: w.Code + p.Init, Fini: w.Code + p.Fini, Pltgot: w.Data + p.Pltgot}
	if d.HasInit != p.HasInit || d.HasFini != p.HasFini || p.HasInit && d.Init != want.Init || p.HasFini && d.Fini != want.Fini || p.HasPltgot && d.Pltgot != want.Pltgot || !p.HasPltgot && d.Pltgot != 0 {
		t.Errorf("P11.2: %+v", d)
	}
	if d.Flags != p.Flags || d.Flags1 != p.Flags1 || (d.GnuHash != 0) != p.Gnu || (d.Hash != 0) == p.Gnu {
		t.Errorf("P11.2: %+v", d)
	}
	for _, a := range []struct {
		l              []uint64
		at, size, told uint64
	}{{p.Inits, d.InitArray, d.InitArraysz, w.Inits}, {p.Finis, d.FiniArray, d.FiniArraysz, w.Finis}} {
		if a.at != a.told || a.size != uint64(8*len(a.l)) || (a.at == 0) != (len(a.l) == 0) {
			t.Errorf("P11.3: the array %+v", a)
		}
		if len(a.l) > 0 && !bytes.Equal(at(t, o, a.at, 8*len(a.l)), make([]byte, 8*len(a.l))) {
			t.Errorf("P11.2: the array %+v isn't noughts", a)
		}
	}
}

func texts(t *testing.T, p api.Plan, o api.Object, w api.Layout) {
	t.Helper()
	d := o.Dyn
	if !slices.Equal(o.Needed, p.Needed) || d.HasSoname != p.HasSoname || d.HasRpath != p.HasRpath || d.HasRunpath != p.HasRunpath {
		t.Errorf("P11.2: needed %q, %+v", o.Needed, d)
	}
	if p.HasSoname && o.Soname != p.Soname || p.HasRpath && o.Rpath != p.Rpath || p.HasRunpath && o.Runpath != p.Runpath {
		t.Errorf("P11.2: %q, %q, %q", o.Soname, o.Rpath, o.Runpath)
	}
}

func symbols(t *testing.T, p api.Plan, o api.Object, w api.Layout) {
	t.Helper()
	if len(o.Syms) != len(p.Syms)+1 || o.Syms[0] != (api.Symbol{}) {
		t.Fatalf("P11.2: %d symbols", len(o.Syms))
	}
	for i, y := range p.Syms {
		got := o.Syms[i+1]
		want := api.Symbol{Name: y.Name, Bind: y.Bind, Type: y.Type, Vis: y.Vis, Size: y.Size, Sect: got.Sect}
		ok := got.Sect != 0 && got.Sect != 0xfff1
		switch y.Where {
		case api.Nowhere:
			ok = got.Sect == 0
		case api.Absolute:
			ok, want.Value = got.Sect == 0xfff1, y.Off
		case api.InCode:
			want.Value = w.Code + y.Off
		case api.InData:
			want.Value = w.Data + y.Off
		case api.InTLS:
			want.Value = y.Off
		}
		if got != want || !ok {
			t.Errorf("P11.2: symbol %d: %+v, not %+v", i+1, got, want)
		}
		found, err := hash.Look(o.Bytes, o.Head, o.Dyn, o.Syms, y.Name)
		if err != nil || !slices.Contains(found, i+1) || !slices.IsSorted(found) {
			t.Errorf("P11.2: %q, symbol %d: found %v, %v", y.Name, i+1, found, err)
		}
	}
}

// versions holds an object's versions against those that a plan's symbols tell.
func versions(t *testing.T, p api.Plan, o api.Object) {
	t.Helper()
	var defs []string
	var files []string
	needs := map[string][]string{}
	for _, y := range p.Syms {
		if y.Version == "" {
			continue
		}
		if y.Where != api.Nowhere {
			if !slices.Contains(defs, y.Version) {
				defs = append(defs, y.Version)
			}
			continue
		}
		if !slices.Contains(files, y.File) {
			files = append(files, y.File)
		}
		if !slices.Contains(needs[y.File], y.Version) {
			needs[y.File] = append(needs[y.File], y.Version)
		}
	}
	want := api.Vers{Has: len(defs)+len(files) > 0}
	index := 2
	if len(defs) > 0 {
		base := p.Soname
		if base == "" {
			base = "base"
		}
		want.Defs = append(want.Defs, api.Verdef{Index: 1, Base: true, Name: base})
		for _, n := range defs {
			want.Defs = append(want.Defs, api.Verdef{Index: index, Name: n})
			index++
		}
	}
	numbers := map[[2]string]int{}
	for _, f := range files {
		need := api.Verneed{File: f}
		for _, n := range needs[f] {
			numbers[[2]string{f, n}] = index
			need.Aux = append(need.Aux, api.Veraux{Index: index, Name: n})
			index++
		}
		want.Needs = append(want.Needs, need)
	}
	if want.Has {
		want.Of = []int{0}
		for _, y := range p.Syms {
			word := numbers[[2]string{y.File, y.Version}]
			if y.Where != api.Nowhere {
				word = 1
				if y.Version != "" {
					word = 2 + slices.Index(defs, y.Version)
				}
				if y.Hidden {
					word |= 0x8000
				}
			}
			want.Of = append(want.Of, word)
		}
	}
	got := o.Vers
	for i := range got.Defs {
		if len(got.Defs[i].Parents) == 0 {
			got.Defs[i].Parents = nil
		}
	}
	if fmt.Sprintf("%+v", got) != fmt.Sprintf("%+v", want) {
		t.Errorf("P11.2: versions %+v, not %+v", got, want)
	}
}

func relocations(t *testing.T, p api.Plan, o api.Object, w api.Layout) {
	t.Helper()
	from := map[int]uint64{api.InCode: w.Code, api.InData: w.Data}
	list := func(l []api.PlanRel) []api.Rel {
		var out []api.Rel
		for _, r := range l {
			out = append(out, api.Rel{Off: from[r.Where] + r.Off, Type: r.Type, Sym: r.Sym, Add: int64(from[r.From]) + r.Add})
		}
		return out
	}
	all := list(p.Rels)
	for i, off := range p.Inits {
		all = append(all, api.Rel{Off: w.Inits + 8*uint64(i), Type: 8, Add: int64(w.Code + off)})
	}
	for i, off := range p.Finis {
		all = append(all, api.Rel{Off: w.Finis + 8*uint64(i), Type: 8, Add: int64(w.Code + off)})
	}
	var packed []uint64
	for _, off := range p.Relr {
		packed = append(packed, w.Data+off)
	}
	if !slices.Equal(o.Rels, all) || !slices.Equal(o.Plt, list(p.Plt)) || !slices.Equal(o.Relr, packed) {
		t.Errorf("P11.2: %+v, %+v, %x", o.Rels, o.Plt, o.Relr)
	}
}

func TestPlans(t *testing.T) {
	p := full()
	for range 2 {
		for range 2 {
			for range 2 {
				compare(t, p)
				p.Relro = !p.Relro
			}
			p.Gnu = !p.Gnu
		}
		p.Type = api.Exec
	}
	for _, p := range []api.Plan{
		{Type: 3, Code: []byte{0xf4}}, {Type: 2}, {Type: 3, Gnu: true}, {Type: 3, Relro: true}, {Type: 2, Bss: api.MaxFile, Relro: true},
		{Type: 3, HasTLS: true, TLSAlign: 1}, {Type: 3, HasTLS: true, TLSAlign: 4096, TLSSize: api.MaxFile, TLS: make([]byte, 5000), Relro: true, Data: []byte{1}},
		{Type: 3, TLSAlign: 3, TLSSize: math.MaxUint64, TLS: []byte{1}}, // without HasTLS none of these is asked
		{Type: 3, HasSoname: true, Needed: []string{"", ""}}, {Type: 3, Soname: "x", Syms: []api.PlanSym{{Name: "f", Where: api.Absolute, Version: "V"}}},
		{Type: 3, Syms: []api.PlanSym{{Name: "f", Where: api.Absolute, Version: "base"}, {Name: "g", Where: api.InCode}}},
		{Type: 3, Syms: []api.PlanSym{{Name: "f", Version: "V", File: "l"}, {Name: "g", Where: api.InCode, Hidden: true}}},
	} {
		compare(t, p)
	}
}

func TestExamples(t *testing.T) {
	o, _ := encode(t, api.Plan{Type: 3, Code: []byte{0xf4}})
	if len(progs(o, api.PtLoad)) != 2 || !o.Dynamic || len(o.Syms) != 1 {
		t.Errorf("P11.2: %+v", o)
	}
	for _, p := range []api.Plan{{Type: 4}, {Type: 3, Entry: 1}} {
		if b, err := mint.Encode(p); b != nil || err != api.ErrForm {
			t.Errorf("P11.1: %v", err)
		}
	}
}

// TestSizes: of code and data of many lengths nothing overlaps.
func TestSizes(t *testing.T) {
	for n := 0; n < 9000; n += 613 {
		for _, relro := range []bool{false, true} {
			compare(t, api.Plan{Type: 2 + n%2, Code: bytes.Repeat([]byte{1}, n), Data: bytes.Repeat([]byte{2}, n*7%5000), Bss: uint64(n * 3), Relro: relro, Inits: []uint64{0}, HasTLS: n%4 > 1, TLS: []byte{9}, TLSSize: 4, TLSAlign: 1 << (n % 13)})
		}
	}
}

// refused tells that a plan isn't made, with that error, by either call.
func refused(t *testing.T, what string, p api.Plan, want error) {
	t.Helper()
	b, err := mint.Encode(p)
	w, err2 := mint.Where(p)
	if b != nil || w != (api.Layout{}) || err != want || err2 != want {
		t.Errorf("P11.1: %s: %v, %v", what, err, err2)
	}
}

func TestForm(t *testing.T) {
	long := strings.Repeat("n", 256)
	rel := func(r api.PlanRel) func(*api.Plan) { return func(p *api.Plan) { p.Rels[1] = r } }
	plt := func(r api.PlanRel) func(*api.Plan) { return func(p *api.Plan) { p.Plt[0] = r } }
	sym := func(do func(*api.PlanSym)) func(*api.Plan) { return func(p *api.Plan) { do(&p.Syms[0]) } }
	for what, do := range map[string]func(*api.Plan){
		"type 1":              func(p *api.Plan) { p.Type = 1 },
		"type 0":              func(p *api.Plan) { p.Type = 0 },
		"entry":               func(p *api.Plan) { p.Entry = 14 },
		"init":                func(p *api.Plan) { p.Init = 14 },
		"init that isn't had": func(p *api.Plan) { p.Init, p.HasInit = 14, false },
		"fini":                func(p *api.Plan) { p.Fini = math.MaxUint64 },
		"an init":             func(p *api.Plan) { p.Inits[1] = 14 },
		"a fini":              func(p *api.Plan) { p.Finis[0] = 14 },
		"pltgot":              func(p *api.Plan) { p.Pltgot = 101 },
		"soname":              func(p *api.Plan) { p.Soname = "a\x00" },
		"soname, not had":     func(p *api.Plan) { p.Soname, p.HasSoname = long, false },
		"rpath":               func(p *api.Plan) { p.Rpath = long },
		"runpath":             func(p *api.Plan) { p.Runpath = "\x00" },
		"needed":              func(p *api.Plan) { p.Needed[2] = long },
		"no name":             sym(func(y *api.PlanSym) { y.Name = "" }),
		"a long name":         sym(func(y *api.PlanSym) { y.Name = long }),
		"a name's nought":     sym(func(y *api.PlanSym) { y.Name = "f\x00" }),
		"a version":           sym(func(y *api.PlanSym) { y.Version = long }),
		"a version's nought":  sym(func(y *api.PlanSym) { y.Version = "V\x00" }),
		"a version, nowhere":  func(p *api.Plan) { p.Syms[1].Version = "\x00" },
		"no file":             func(p *api.Plan) { p.Syms[1].File = "" },
		"a long file":         func(p *api.Plan) { p.Syms[1].File = long },
		"a file's nought":     func(p *api.Plan) { p.Syms[1].File = "a\x00b" },
		"bind 3":              sym(func(y *api.PlanSym) { y.Bind = 3 }),
		"bind -1":             sym(func(y *api.PlanSym) { y.Bind = -1 }),
		"type 3 of a symbol":  sym(func(y *api.PlanSym) { y.Type = 3 }),
		"type 4 of a symbol":  sym(func(y *api.PlanSym) { y.Type = 4 }),
		"type -1 of a symbol": sym(func(y *api.PlanSym) { y.Type = -1 }),
		"type 11 of a symbol": sym(func(y *api.PlanSym) { y.Type = 11 }),
		"vis 4":               sym(func(y *api.PlanSym) { y.Vis = 4 }),
		"vis -1":              sym(func(y *api.PlanSym) { y.Vis = -1 }),
		"where 5":             sym(func(y *api.PlanSym) { y.Where = 5 }),
		"where -1":            sym(func(y *api.PlanSym) { y.Where = -1 }),
		"behind the code":     sym(func(y *api.PlanSym) { y.Off = 14 }),
		"behind the data":     func(p *api.Plan) { p.Syms[2].Off = 5101 },
		"behind the bss":      func(p *api.Plan) { p.Syms[2].Off, p.Bss = 101+api.MaxFile, math.MaxUint64 },
		"behind the TLS":      func(p *api.Plan) { p.Syms[3].Off = 78 },
		"without TLS":         func(p *api.Plan) { p.Syms[3].Off, p.HasTLS = 0, false },
		"TLS's bytes":         func(p *api.Plan) { p.TLSSize, p.Syms[3].Off = 2, 0 },
		"TLS's align 0":       func(p *api.Plan) { p.TLSAlign = 0 },
		"TLS's align 3":       func(p *api.Plan) { p.TLSAlign = 3 },
		"TLS's align 8192":    func(p *api.Plan) { p.TLSAlign = 8192 },
		"nowhere to write":    rel(api.PlanRel{Where: api.Nowhere}),
		"to write in TLS":     rel(api.PlanRel{Where: api.InTLS}),
		"to write absolute":   rel(api.PlanRel{Where: api.Absolute}),
		"to write behind":     rel(api.PlanRel{Where: api.InCode, Off: 6}),
		"to write in bss":     rel(api.PlanRel{Where: api.InData, Off: 5093}),
		"to write far behind": rel(api.PlanRel{Where: api.InData, Off: math.MaxUint64 - 3}),
		"a relocation's type": rel(api.PlanRel{Where: api.InData, Type: -1}),
		"a type of 2^31":      rel(api.PlanRel{Where: api.InData, Type: math.MaxInt32 + 1}),
		"symbol 11":           rel(api.PlanRel{Where: api.InData, Sym: 11}),
		"symbol -1":           rel(api.PlanRel{Where: api.InData, Sym: -1}),
		"from TLS":            rel(api.PlanRel{Where: api.InData, From: api.InTLS}),
		"from -1":             rel(api.PlanRel{Where: api.InData, From: -1}),
		"of the table":        plt(api.PlanRel{Where: api.InData, Sym: 11}),
		"of the table, where": plt(api.PlanRel{}),
		"packed, odd":         func(p *api.Plan) { p.Relr[1] = 9 },
		"packed, of 4":        func(p *api.Plan) { p.Relr[1] = 4 },
		"packed, not rising":  func(p *api.Plan) { p.Relr[1] = 0 },
		"packed, behind":      func(p *api.Plan) { p.Relr[3] = 96 },
		"packed, far behind":  func(p *api.Plan) { p.Relr[3] = math.MaxUint64 - 7 },
	} {
		p := full()
		do(&p)
		refused(t, what, p, api.ErrForm)
		p.Bss = math.MaxUint64 // ErrForm goes ahead of ErrLong
		if !strings.HasPrefix(what, "behind") && !strings.HasPrefix(what, "to write") {
			refused(t, what+", and long", p, api.ErrForm)
		}
	}
	refused(t, "packed in short data", api.Plan{Type: 3, Data: make([]byte, 7), Relr: []uint64{0}}, api.ErrForm)
	refused(t, "to write in short code", api.Plan{Type: 3, Code: make([]byte, 7), Rels: []api.PlanRel{{Where: api.InCode}}}, api.ErrForm)
}

// many is n symbols, each made by a function.
func many(n int, make func(i int) api.PlanSym) []api.PlanSym {
	var l []api.PlanSym
	for i := range n {
		y := make(i)
		y.Name = fmt.Sprint("s", i%1000)
		l = append(l, y)
	}
	return l
}

func TestLong(t *testing.T) {
	plain := func(int) api.PlanSym { return api.PlanSym{Bind: 1, Where: api.Absolute} }
	defined := func(i int) api.PlanSym { return api.PlanSym{Where: api.Absolute, Version: fmt.Sprint("V", i)} }
	files := func(i int) api.PlanSym { return api.PlanSym{Version: "V", File: fmt.Sprint("f", i)} }
	needed := func(i int) api.PlanSym { return api.PlanSym{Version: fmt.Sprint("V", i), File: "f"} }
	up := func(n int) []uint64 {
		l := make([]uint64, n)
		for i := range l {
			l[i] = 8 * uint64(i)
		}
		return l
	}
	rels := func(n int) []api.PlanRel { return slices.Repeat([]api.PlanRel{{Where: api.InData}}, n) }
	word := make([]byte, 8)
	for what, c := range map[string]func(more int) api.Plan{
		"symbols":     func(n int) api.Plan { return api.Plan{Type: 3, Syms: many(4095+n, plain)} },
		"symbols, 2":  func(n int) api.Plan { return api.Plan{Type: 3, Gnu: true, Syms: many(4095+n, plain)} },
		"relocations": func(n int) api.Plan { return api.Plan{Type: 3, Data: word, Rels: rels(16384 + n)} },
		"all together": func(n int) api.Plan {
			return api.Plan{Type: 3, Data: word, Rels: rels(16000), Inits: make([]uint64, 200), Finis: make([]uint64, 184+n)}
		},
		"the table's":   func(n int) api.Plan { return api.Plan{Type: 3, Data: word, Plt: rels(16384 + n)} },
		"packed":        func(n int) api.Plan { return api.Plan{Type: 3, Data: make([]byte, 131080), Relr: up(16384 + n)} },
		"needed":        func(n int) api.Plan { return api.Plan{Type: 3, Needed: make([]string, 64+n)} },
		"definitions":   func(n int) api.Plan { return api.Plan{Type: 3, Syms: many(63+n, defined)} },
		"files":         func(n int) api.Plan { return api.Plan{Type: 3, Syms: many(64+n, files)} },
		"versions of 1": func(n int) api.Plan { return api.Plan{Type: 3, Syms: many(64+n, needed)} },
		"bss":           func(n int) api.Plan { return api.Plan{Type: 3, Bss: api.MaxFile + uint64(n)} },
		"TLS": func(n int) api.Plan {
			return api.Plan{Type: 3, HasTLS: true, TLSAlign: 1, TLSSize: api.MaxFile + uint64(n)}
		},
	} {
		compare(t, c(0))
		refused(t, "too many: "+what, c(1), api.ErrLong)
	}
	refused(t, "a file too long", api.Plan{Type: 3, Code: make([]byte, api.MaxFile)}, api.ErrLong)
	refused(t, "a file too long", api.Plan{Type: 3, Code: make([]byte, api.MaxFile/2), Data: make([]byte, api.MaxFile/2)}, api.ErrLong)
	compare(t, api.Plan{Type: 3, Code: make([]byte, api.MaxFile/2), Data: make([]byte, api.MaxFile/2-20000), Relro: true})
}

// TestGreatest: texts of as many bytes as may be, and a file of as many.
func TestGreatest(t *testing.T) {
	s := strings.Repeat("n", 255)
	compare(t, api.Plan{Type: 3, Soname: s, Rpath: s, Runpath: s, HasSoname: true, HasRpath: true, HasRunpath: true, Needed: []string{s},
		Syms: []api.PlanSym{{Name: s, Where: api.Absolute, Version: s}, {Name: s, Version: s, File: s}}})
	for _, relro := range []bool{false, true} {
		p := api.Plan{Type: 3, Relro: relro, Data: make([]byte, 1)}
		b, err := mint.Encode(p)
		if err != nil {
			t.Fatal(err)
		}
		p.Data = make([]byte, 1+api.MaxFile-len(b))
		if b, err := mint.Encode(p); len(b) != api.MaxFile || err != nil {
			t.Errorf("P11.1: %d bytes, %v", len(b), err)
		}
		p.Data = append(p.Data, 0)
		refused(t, "a file of one byte more", p, api.ErrLong)
	}
}

// TestManyVersions: as many versions as may be, defined and needed.
func TestManyVersions(t *testing.T) {
	p := api.Plan{Type: 3}
	p.Syms = many(4000, func(i int) api.PlanSym {
		return api.PlanSym{Bind: 1, Where: (i % 2) * api.InCode, Hidden: i%3 == 0, Version: fmt.Sprint("V", i%63), File: fmt.Sprint("f", i%61)}
	})
	compare(t, p)
}

// TestMadeByChance: plans of many kinds are told again.
func TestMadeByChance(t *testing.T) {
	c := rand.New(rand.NewPCG(3, 4))
	for range 300 {
		p := api.Plan{Type: 2 + c.IntN(2), Code: make([]byte, 8+c.IntN(50)), Data: make([]byte, 8+c.IntN(300)), Bss: uint64(c.IntN(9000)), Gnu: c.IntN(2) == 0, Relro: c.IntN(2) == 0, HasTLS: true, TLS: make([]byte, c.IntN(9)), TLSSize: 9, TLSAlign: 1 << c.IntN(13)}
		p.HasSoname, p.Soname = c.IntN(2) == 0, [...]string{"", "lib"}[c.IntN(2)]
		for i := range c.IntN(12) {
			y := api.PlanSym{Name: fmt.Sprint("n", c.IntN(6)), Bind: c.IntN(3), Type: [...]int{0, 1, 2, 6, 10}[c.IntN(5)], Vis: c.IntN(4), Where: c.IntN(5), Off: uint64(c.IntN(9)), Size: uint64(i), Hidden: c.IntN(2) == 0, File: fmt.Sprint("f", c.IntN(3))}
			if c.IntN(2) == 0 {
				y.Version = fmt.Sprint("V", c.IntN(4))
			}
			p.Syms = append(p.Syms, y)
		}
		for range c.IntN(6) {
			p.Rels = append(p.Rels, api.PlanRel{Where: 1 + c.IntN(2), Type: c.IntN(40), Sym: c.IntN(len(p.Syms) + 1), From: c.IntN(3), Add: int64(c.Uint64())})
			p.Plt = append(p.Plt, api.PlanRel{Where: 2, Off: uint64(c.IntN(100)) % uint64(len(p.Data)-7), Type: 7, Sym: c.IntN(len(p.Syms) + 1)})
		}
		for off := uint64(0); off+8 <= uint64(len(p.Data)); off += 8 * uint64(1+c.IntN(20)) {
			p.Relr = append(p.Relr, off)
		}
		p.Inits, p.Finis = make([]uint64, c.IntN(3)), make([]uint64, c.IntN(3))
		compare(t, p)
	}
}

// TestNotKept: what is handed in isn't changed, and where the parts lie doesn't hang on what they hold.
func TestNotKept(t *testing.T) {
	p, same := full(), full()
	w, err := mint.Where(p)
	if _, err2 := mint.Encode(p); err != nil || err2 != nil || !reflect.DeepEqual(p, same) {
		t.Errorf("P11.2: the plan was changed, %v, %v", err, err2)
	}
	p.Code[0], p.Data[99], p.TLS[2] = 1, 2, 3
	if w2, err := mint.Where(p); w2 != w || err != nil {
		t.Errorf("P11.3: %+v, not %+v, %v", w2, w, err)
	}
}
