package mint

import (
	"slices"

	"shackle/api"
	"shackle/hash"
)

// Words of symbols.
const (
	hidden    = 0x8000
	baseIndex = 1
	baseName  = "base"
)

// versions are those that a plan's symbols tell: what is defined, without the Base, and what is needed, each in the order in which it is told.
type versions struct {
	some  bool
	defs  []string
	needs []api.Verneed
}

// gather is the versions that symbols tell.
func gather(l []api.PlanSym) versions {
	var v versions
	for _, y := range l {
		switch {
		case y.Version == "":
			continue
		case y.Where == api.Nowhere:
			v.need(y.File, y.Version)
		case !slices.Contains(v.defs, y.Version):
			v.defs = append(v.defs, y.Version)
		}
		v.some = true
	}
	index := baseIndex + 1 + len(v.defs)
	for _, n := range v.needs {
		for i := range n.Aux {
			n.Aux[i].Index = index
			index++
		}
	}
	return v
}

// need notes a version that is needed of a file.
func (v *versions) need(file, name string) {
	if v.find(file, name) != nil {
		return
	}
	i := slices.IndexFunc(v.needs, func(n api.Verneed) bool { return n.File == file })
	if i < 0 {
		i = len(v.needs)
		v.needs = append(v.needs, api.Verneed{File: file})
	}
	v.needs[i].Aux = append(v.needs[i].Aux, api.Veraux{Name: name})
}

// find is a version that is needed of a file; nil, if there is none.
func (v *versions) find(file, name string) *api.Veraux {
	for _, n := range v.needs {
		if n.File != file {
			continue
		}
		for i := range n.Aux {
			if n.Aux[i].Name == name {
				return &n.Aux[i]
			}
		}
	}
	return nil
}

// word is a symbol's word.
func (v *versions) word(y api.PlanSym) uint64 {
	if y.Where == api.Nowhere {
		if y.Version == "" {
			return 0
		}
		return uint64(v.find(y.File, y.Version).Index)
	}
	w := uint64(baseIndex)
	if y.Version != "" {
		w += 1 + uint64(slices.Index(v.defs, y.Version))
	}
	if y.Hidden {
		w |= hidden
	}
	return w
}

// words is the symbols' words, if one has a version.
func (m *maker) words() []byte {
	if !m.versions.some {
		return nil
	}
	b := make([]byte, 2)
	for _, y := range m.plan.Syms {
		b = numbers(b, 2, m.versions.word(y))
	}
	return b
}

// defs is the definitions, behind the Base.
func (m *maker) defs() []byte {
	defs := m.versions.defs
	if len(defs) == 0 {
		return nil
	}
	base := m.plan.Soname
	if base == "" {
		base = baseName
	}
	b := m.def(base, baseIndex, 1, false)
	for i, name := range defs {
		b = append(b, m.def(name, baseIndex+1+i, 0, i == len(defs)-1)...)
	}
	return b
}

// def is a definition, whose name stands at once behind it.
func (m *maker) def(name string, index int, flags uint64, last bool) []byte {
	b := numbers(nil, 2, 1, flags, uint64(index), 1)
	return numbers(b, 4, uint64(hash.Sysv(name)), 20, step(28, last), m.texts.place(name), 0)
}

// needs is what is needed of other objects.
func (m *maker) needs() []byte {
	var b []byte
	for i, n := range m.versions.needs {
		b = numbers(b, 2, 1, uint64(len(n.Aux)))
		b = numbers(b, 4, m.texts.place(n.File), 16, step(16+16*len(n.Aux), i == len(m.versions.needs)-1))
		for j, a := range n.Aux {
			b = numbers(b, 4, uint64(hash.Sysv(a.Name)))
			b = numbers(b, 2, 0, uint64(a.Index))
			b = numbers(b, 4, m.texts.place(a.Name), step(16, j == len(n.Aux)-1))
		}
	}
	return b
}

// step is how far the next thing begins above one; 0 of the last one.
func step(size int, last bool) uint64 {
	if last {
		return 0
	}
	return uint64(size)
}
