package mint

import "shackle/api"

// execBase is where the first segment of a program of fixed place begins.
const execBase = 0x400000

// The parts of a file, in their order: those up to the strings are its first segment, the others its second one.
const (
	partFront = iota
	partCode
	partTable
	partSyms
	partWords
	partDefs
	partNeeds
	partRels
	partPlt
	partPacked
	partTexts
	partDynamic
	partInits
	partFinis
	partTLS
	partData
	partCount
)

// layout is where the parts lie in the file (off, len), and in memory.
type layout struct {
	off, len [partCount]uint64
	base     uint64 // of the first segment
	first    uint64 // how long that is
	second   uint64 // where in the file the second one begins
	above    uint64 // how far above their places in the file its addresses are
	sealed   uint64 // how many of its bytes, whole pages, may be sealed
	size     uint64 // of the file
}

// layout lays parts out.
func (m *maker) layout(c [partCount][]byte) layout {
	var l layout
	if m.plan.Type == api.Exec {
		l.base = execBase
	}
	for i, b := range c {
		l.len[i] = uint64(len(b))
		switch {
		case i == partDynamic:
			l.first = l.size
			l.turn(m.plan.Relro)
		case i == partTLS && m.plan.HasTLS:
			l.align(m.plan.TLSAlign)
		case i == partData && m.plan.Relro:
			l.align(api.Page)
			l.sealed = l.size - l.second
		}
		if i != partTLS {
			l.align(16)
		}
		l.off[i] = l.size
		l.size += l.len[i]
	}
	return l
}

// turn begins the second segment: on a page of its own in memory, and in the file, too, if its first pages are to be sealed; else it goes on there at once.
func (l *layout) turn(sealed bool) {
	l.align(16)
	next := (l.first + api.Page - 1) / api.Page * api.Page
	if sealed {
		l.align(api.Page)
	}
	l.second = l.size
	l.above = l.base + next + l.second%api.Page - l.second
}

// align goes on at a multiple of a power of 2.
func (l *layout) align(to uint64) { l.size = (l.size + to - 1) &^ (to - 1) }

// addr is a part's address.
func (l layout) addr(part int) uint64 {
	if part < partDynamic {
		return l.base + l.off[part]
	}
	return l.above + l.off[part]
}

// prog is a program header that tells a part.
func (l layout) prog(kind, flags uint32, part int, align uint64) api.Prog {
	return api.Prog{Type: kind, Flags: flags, Off: l.off[part], Vaddr: l.addr(part), Filesz: l.len[part], Memsz: l.len[part], Align: align}
}
