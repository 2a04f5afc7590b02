package mint

import (
	"math"
	"math/bits"

	"shackle/api"
)

// The greatest numbers that may be.
const (
	maxSyms = api.MaxSyms - 1 // without the first one
	maxRels = 4 * api.MaxSyms
	maxDefs = api.MaxVers - 1 // without the Base
)

// formed tells whether a plan may be, but for what is too much.
func formed(p api.Plan) bool {
	return (p.Type == api.Exec || p.Type == api.Shared) &&
		placed(p) && named(p) && threads(p) && symbols(p) &&
		relocations(p, p.Rels) && relocations(p, p.Plt) && packed(p)
}

// placed: what lies in the code and in the data lies there.
func placed(p api.Plan) bool {
	code := uint64(len(p.Code))
	within := func(l ...uint64) bool {
		for _, v := range l {
			if v > code {
				return false
			}
		}
		return true
	}
	return within(p.Entry, p.Init, p.Fini) && within(p.Inits...) && within(p.Finis...) && p.Pltgot <= uint64(len(p.Data))
}

// named: the object's own texts are texts.
func named(p api.Plan) bool {
	for _, s := range append([]string{p.Soname, p.Rpath, p.Runpath}, p.Needed...) {
		if !isText(s) {
			return false
		}
	}
	return true
}

// isText tells whether a text may stand among the strings.
func isText(s string) bool {
	for _, r := range s {
		if r == 0 {
			return false
		}
	}
	return len(s) <= api.MaxText
}

// threads: thread-local storage has room for its bytes.
func threads(p api.Plan) bool {
	if !p.HasTLS {
		return true
	}
	return uint64(len(p.TLS)) <= p.TLSSize && bits.OnesCount64(p.TLSAlign) == 1 && p.TLSAlign <= api.Page
}

// symbols: all of them may be.
func symbols(p api.Plan) bool {
	for _, y := range p.Syms {
		if !symbol(p, y) {
			return false
		}
	}
	return true
}

// symbol: one of them may be.
func symbol(p api.Plan, y api.PlanSym) bool {
	if y.Name == "" || !isText(y.Name) || !isText(y.Version) {
		return false
	}
	if y.Where == api.Nowhere && y.Version != "" && (y.File == "" || !isText(y.File)) {
		return false
	}
	switch y.Type {
	case api.NoType, api.Data, api.Func, api.TLS, api.Ifunc:
	default:
		return false
	}
	if y.Bind < api.Local || y.Bind > api.Weak || y.Vis < api.Default || y.Vis > api.Protected {
		return false
	}
	most, ok := room(p, y.Where)
	return ok && y.Off <= most
}

// room is how far what lies somewhere may be off from there.
func room(p api.Plan, where int) (uint64, bool) {
	switch where {
	case api.Nowhere, api.Absolute:
		return math.MaxUint64, true
	case api.InCode:
		return uint64(len(p.Code)), true
	case api.InData:
		return uint64(len(p.Data)) + min(p.Bss, api.MaxFile), true
	case api.InTLS:
		return p.TLSSize, p.HasTLS
	}
	return 0, false
}

// inMemory tells whether something lies in the code or in the data.
func inMemory(where int) bool { return where == api.InCode || where == api.InData }

// relocations: all of them may be.
func relocations(p api.Plan, l []api.PlanRel) bool {
	for _, r := range l {
		most, _ := room(p, r.Where)
		if !inMemory(r.Where) || most < 8 || r.Off > most-8 ||
			r.Type < 0 || r.Type > math.MaxInt32 || r.Sym < 0 || r.Sym > len(p.Syms) ||
			r.From != api.Nowhere && !inMemory(r.From) {
			return false
		}
	}
	return true
}

// packed: so may be those that are packed.
func packed(p api.Plan) bool {
	for i, v := range p.Relr {
		if v%8 != 0 || i > 0 && v <= p.Relr[i-1] || len(p.Data) < 8 || v > uint64(len(p.Data)-8) {
			return false
		}
	}
	return true
}

// long tells whether a plan has too much of something.
func long(p api.Plan, v versions) bool {
	if len(p.Syms) > maxSyms || len(p.Rels)+len(p.Inits)+len(p.Finis) > maxRels || len(p.Plt) > maxRels || len(p.Relr) > maxRels ||
		len(p.Needed) > api.MaxObjects || len(v.defs) > maxDefs || len(v.needs) > api.MaxVers ||
		p.Bss > api.MaxFile || p.HasTLS && p.TLSSize > api.MaxFile {
		return true
	}
	for _, n := range v.needs {
		if len(n.Aux) > api.MaxVers {
			return true
		}
	}
	return false
}
